package records

import (
	"strings"

	"timetable/api"
)

// position is a place in a text: how many bytes stand before it, its line, and how many bytes stand before that line.
type position struct{ at, line, begin int }

// column is the place within the line, in bytes from 1 on.
func (p *position) column() int { return p.at - p.begin + 1 }

// pass moves the position behind the text s that stands there.
func (p *position) pass(s string) {
	if last := strings.LastIndexByte(s, '\n'); last >= 0 {
		p.line += strings.Count(s, "\n")
		p.begin = p.at + last + 1
	}
	p.at += len(s)
}

// reader reads a text from its position on, and collects the problems on its way.
type reader struct {
	position
	text, delimiter, quote string
	problems               []api.Problem
}

func newReader(text string, d api.Dialect) *reader {
	return &reader{
		position:  position{line: 1},
		text:      text,
		delimiter: string(d.Delimiter),
		quote:     string(d.Quote),
	}
}

// rest is what has not been read.
func (r *reader) rest() string { return r.text[r.at:] }

// restOfLine is what has not been read of the line, without its end.
func (r *reader) restOfLine() string {
	line, _, _ := strings.Cut(r.rest(), "\n")
	return strings.TrimSuffix(line, "\r")
}

// passTo moves the reader to the place where only the text after is left.
func (r *reader) passTo(after string) {
	rest := r.rest()
	r.pass(rest[:len(rest)-len(after)])
}

func (r *reader) skipLine() {
	_, after, _ := strings.Cut(r.rest(), "\n")
	r.passTo(after)
}

// report adds a problem at the place where the reader stands.
func (r *reader) report(e api.Errno) {
	r.problems = append(r.problems, api.Problem{Line: r.line, Column: r.column(), Code: e})
}

// giveUpLine reports a problem that ends a record and takes the rest of its line with it.
func (r *reader) giveUpLine(e api.Errno) {
	r.report(e)
	r.skipLine()
}

// findRecord skips the lines that belong to no record, and reports whether a record begins behind them.
func (r *reader) findRecord() bool {
	for r.rest() != "" {
		if line := r.restOfLine(); line != "" && !strings.HasPrefix(line, comment) {
			return true
		}
		r.skipLine()
	}
	return false
}

// readRecord reads a record with the end of its line; false if a problem ended it.
func (r *reader) readRecord() (api.Record, bool) {
	record := api.Record{Line: r.line}
	for {
		if len(record.Fields) == api.MaxFields {
			r.giveUpLine(api.ErrFields)
			return api.Record{}, false
		}
		field, ok := r.readField()
		if !ok {
			return api.Record{}, false
		}
		record.Fields = append(record.Fields, field)
		if r.restOfLine() == "" {
			r.skipLine()
			return record, true
		}
		r.pass(r.delimiter)
	}
}

// readField reads a field up to the delimiter or the end of the line; false if a problem ended the record.
func (r *reader) readField() (api.Field, bool) {
	field := api.Field{Column: r.column()}
	read := r.readPlain
	if strings.HasPrefix(r.rest(), r.quote) {
		field.Quoted, read = true, r.readQuoted
	}
	text, ok := read()
	field.Text = text
	return field, ok
}

func (r *reader) readPlain() (string, bool) {
	text, _, _ := strings.Cut(r.restOfLine(), r.delimiter)
	before, _, quoted := strings.Cut(text, r.quote)
	r.pass(before)
	if quoted {
		r.giveUpLine(api.ErrQuote)
		return "", false
	}
	return strings.Clone(text), true // a part of the text would keep the whole of it in memory
}

func (r *reader) readQuoted() (string, bool) {
	var text strings.Builder
	rest := strings.TrimPrefix(r.rest(), r.quote)
	for {
		part, after, ended := strings.Cut(rest, r.quote)
		if !ended {
			r.report(api.ErrQuote)
			r.passTo("")
			return "", false
		}
		text.WriteString(part)
		if !strings.HasPrefix(after, r.quote) {
			r.passTo(after)
			return text.String(), r.endQuoted()
		}
		text.WriteString(r.quote)
		rest = strings.TrimPrefix(after, r.quote)
	}
}

// endQuoted reports whether a field can end where the reader stands, behind a quotation mark.
func (r *reader) endQuoted() bool {
	if line := r.restOfLine(); line != "" && !strings.HasPrefix(line, r.delimiter) {
		r.giveUpLine(api.ErrQuote)
		return false
	}
	return true
}
