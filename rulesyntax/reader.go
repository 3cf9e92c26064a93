package rulesyntax

import (
	"strings"

	"timetable/api"
	"timetable/codes"
	"timetable/entries"
	"timetable/timegrid"
)

// reader reads rules: for a grid and a number of weeks, with a function that tells whether a rule can be taken together with those before.
type reader struct {
	grid   api.Grid
	weeks  int
	accept func(u api.Rule) api.Errno
}

// readLine returns the rule of a line, or the fault for which the line was given up. The number is that of the line.
func (r reader) readLine(s string, number int) (u api.Rule, f fault) {
	defer func() {
		if found, ok := recover().(fault); ok {
			u, f = api.Rule{}, found
		}
	}()
	u, list := newLine(s).rule()
	u.Line = number
	giveUp(0, r.readList(&u, list))
	giveUp(0, Valid(u, r.grid, r.weeks))
	giveUp(0, r.accept(u))
	return u, f
}

// readList reads what stands between the brackets of a rule.
func (r reader) readList(u *api.Rule, list string) (e api.Errno) {
	switch u.Kind {
	case api.RuleAvoid:
		// As many as a text can have: that they are too many is an error of the rule, which comes behind others.
		u.Times, e = entries.ReadParts(list, separator, api.MaxFile, r.readTime)
	case api.RuleRooms:
		u.Rooms, e = codes.List(withoutSpaces(list))
	}
	return e
}

func (r reader) readTime(part string) (api.Time, api.Errno) {
	return timegrid.Parse(r.grid, r.weeks, strings.Trim(part, space))
}

// withoutSpaces returns a list without the spaces around its parts.
func withoutSpaces(list string) string {
	var parts []string
	for part := range strings.SplitSeq(list, separator) {
		parts = append(parts, strings.Trim(part, space))
	}
	return strings.Join(parts, separator)
}
