package rulesyntax

import (
	"strings"

	"timetable/api"
	"timetable/codes"
	"timetable/numerals"
)

const (
	maxDigits = 4   // of a number
	zero      = "0" // the only number that begins with this digit
)

// rule reads a whole line, and returns what stands between the brackets besides.
func (l *line) rule() (u api.Rule, list string) {
	u.Name = l.name()
	l.demand(colon)
	u.Weight = l.weight()
	u.Kind = l.kind()
	if hasNumber(u.Kind) {
		u.N = l.number()
	}
	u.First = l.selection()
	switch u.Kind {
	case api.RuleBefore:
		l.demand(comma)
		u.Second = l.selection()
	case api.RuleAvoid, api.RuleRooms:
		l.demand(comma)
		list = l.list()
	}
	l.demandEnd()
	return u, list
}

func (l *line) name() string {
	name := l.token
	if !codes.Valid(name) {
		l.giveUp(api.ErrSyntax)
	}
	l.advance()
	return strings.Clone(name) // a part of the text would keep the whole of it in memory
}

// weight reads the weight of a rule, which is written with a word if it is 0.
func (l *line) weight() int {
	if l.take(hard) {
		return 0
	}
	if l.token == zero {
		l.giveUp(api.ErrSyntax)
	}
	return l.number()
}

func (l *line) kind() int {
	kind := ruleKind(l.token)
	if kind == 0 {
		l.giveUp(api.ErrSyntax)
	}
	l.advance()
	return kind
}

func (l *line) number() int {
	n, ok := numerals.Read(l.token, maxDigits)
	if !ok && l.token != zero {
		l.giveUp(api.ErrSyntax)
	}
	l.advance()
	return n
}

func (l *line) selection() api.Select { return l.joined(api.SelectOr, l.conjunction) }

func (l *line) conjunction() api.Select { return l.joined(api.SelectAnd, l.atom) }

// joined reads one or several parts with the word of a kind between, and returns the only one, or a selection of the kind with all of them.
func (l *line) joined(kind int, readPart func() api.Select) api.Select {
	parts := []api.Select{readPart()}
	for l.take(selectWords[kind]) {
		parts = append(parts, readPart())
	}
	if len(parts) == 1 {
		return parts[0]
	}
	return api.Select{Kind: kind, Kids: parts}
}

// atom reads a part of a selection that is not joined, or stands in parentheses.
func (l *line) atom() api.Select {
	if l.take(parenOpen) {
		s := l.selection()
		l.demand(parenClose)
		return s
	}
	s := api.Select{Kind: selectKind(l.token)}
	switch {
	case s.Kind == api.SelectAll:
		l.advance()
	case hasName(s.Kind):
		l.advance()
		s.Name = l.name()
	case s.Kind == api.SelectNot:
		l.advance()
		s.Kids = []api.Select{l.atom()}
	default:
		l.giveUp(api.ErrSyntax)
	}
	return s
}
