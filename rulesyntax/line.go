package rulesyntax

import (
	"strings"

	"timetable/api"
)

// fault is an error of a line, and the column at which it is found: 0 for the line as a whole.
type fault struct {
	column int
	code   api.Errno
}

// giveUp gives a line up for an error, if there is one.
func giveUp(column int, e api.Errno) {
	if e != api.OK {
		panic(fault{column, e})
	}
}

// line is read from the left, word by word and sign by sign.
type line struct {
	text   string // up to a comment
	length int    // with the comment
	token  string // the next word or sign, empty at the end of the line
	at     int    // where it begins
	rest   string // what stands behind it in the text
}

// newLine returns a line that stands before its first word or sign.
func newLine(s string) *line {
	text := withoutComment(s)
	l := &line{text: text, length: len(s), rest: text}
	l.advance()
	return l
}

// advance goes on to the next word or sign, and no farther, so that the first error from the left is found first.
func (l *line) advance() {
	rest := strings.TrimLeft(l.rest, blanks)
	l.at = len(l.text) - len(rest)
	n := len(rest) - len(strings.TrimLeft(rest, wordBytes))
	switch {
	case n > 0: // a word
	case rest == "":
		l.at = l.length
	case strings.IndexByte(signs, rest[0]) >= 0:
		n = 1
	default:
		l.giveUp(api.ErrCharacter)
	}
	l.token, l.rest = rest[:n], rest[n:]
}

// giveUp gives the line up for an error where the next word or sign begins.
func (l *line) giveUp(e api.Errno) { giveUp(l.at+1, e) }

// take goes on if the next word or sign is a certain one, and reports whether it is.
func (l *line) take(token string) bool {
	if l.token != token {
		return false
	}
	l.advance()
	return true
}

// demand goes on if the next word or sign is a certain one, and otherwise gives the line up.
func (l *line) demand(token string) {
	if !l.take(token) {
		l.giveUp(api.ErrSyntax)
	}
}

// demandEnd gives the line up if there is another word or sign.
func (l *line) demandEnd() { l.demand("") }

// list reads brackets, and returns the text between them.
func (l *line) list() string {
	text, rest, closed := strings.Cut(l.rest, bracketClose)
	if l.token != bracketOpen || !closed {
		l.giveUp(api.ErrSyntax)
	}
	l.rest = rest
	l.advance()
	return text
}

func isBlank(s string) bool { return strings.Trim(withoutComment(s), blanks) == "" }

func withoutComment(s string) string {
	text, _, _ := strings.Cut(s, comment)
	return text
}
