package coursefile

import (
	"cmp"
	"slices"
	"strings"

	"timetable/api"
	"timetable/entries"
	"timetable/numerals"
	"timetable/timegrid"
)

const (
	space      = " " // between the day and the slot of a start
	semicolon  = ";" // between starts
	slotDigits = 2
	maxTimes   = 4096 // of a class
	oneWeek    = 1    // a term of one week, and the set of its week: starts are in no weeks of their own
)

// Times returns the times at which a class may take place.
func Times(c api.Class, g api.Grid) []api.Time {
	if timegrid.Valid(g) != api.OK || !isLength(c.Length, g) {
		return nil
	}
	starts := c.Starts
	if len(starts) == 0 {
		starts = allStarts(c.Length, g)
	}
	var l []api.Time
patterns:
	for _, weeks := range c.Patterns {
		for _, s := range starts {
			if len(l) == maxTimes { // with this one there are too many
				l = nil
				break patterns
			}
			l = append(l, timeAt(s, weeks, c.Length))
		}
	}
	return l
}

// timeAt returns the time with a start.
func timeAt(s api.Start, weeks, length int) api.Time {
	return api.Time{Weeks: weeks, Day: s.Day, Start: s.Slot, Length: length}
}

// allStarts returns all starts of a class that takes so many slots.
func allStarts(length int, g api.Grid) []api.Start {
	var l []api.Start
	for day := range g.Days {
		for slot := range g.Slots - length + 1 {
			l = append(l, api.Start{Day: day, Slot: slot})
		}
	}
	return l
}

// areStarts reports whether a list consists of starts in ascending order.
func areStarts(l []api.Start, length int, g api.Grid) bool {
	for i, s := range l {
		if !isStart(s, length, g) || i > 0 && compareStarts(l[i-1], s) >= 0 {
			return false
		}
	}
	return true
}

// isStart reports whether a class that takes so many slots can begin at a start.
func isStart(s api.Start, length int, g api.Grid) bool {
	return timegrid.Fits(g, oneWeek, timeAt(s, oneWeek, length)) == api.OK
}

func compareStarts(a, b api.Start) int {
	return cmp.Or(cmp.Compare(a.Day, b.Day), cmp.Compare(a.Slot, b.Slot))
}

// readStarts reads the starts of a class that takes so many slots, and sorts them.
func readStarts(s string, length int, g api.Grid) ([]api.Start, api.Errno) {
	if s == "" {
		return nil, api.OK
	}
	readOne := func(part string) (api.Start, api.Errno) { return readStart(part, length, g) }
	l, e := entries.ReadParts(s, semicolon, api.MaxTimes, readOne)
	switch {
	case e != api.OK:
		return nil, e
	case hasEqual(l):
		return nil, api.ErrDuplicate
	}
	slices.SortFunc(l, compareStarts)
	return l, api.OK
}

// readStart reads a start as the time of its first slot.
func readStart(s string, length int, g api.Grid) (api.Start, api.Errno) {
	// A time could have several slots, and weeks behind them.
	_, slot, _ := strings.Cut(s, space)
	if _, ok := numerals.Read(slot, slotDigits); !ok {
		return api.Start{}, api.ErrForm
	}
	t, e := timegrid.Parse(g, oneWeek, s)
	start := api.Start{Day: t.Day, Slot: t.Start}
	switch {
	case e != api.OK:
		return api.Start{}, e
	case !isStart(start, length, g):
		return api.Start{}, api.ErrTime
	}
	return start, api.OK
}

// writeStarts returns the text of valid starts.
func writeStarts(l []api.Start, g api.Grid) string {
	var parts []string
	for _, s := range l {
		part, _ := timegrid.Format(g, oneWeek, timeAt(s, oneWeek, 1)) // there is no error, since the slot is in the grid
		parts = append(parts, part)
	}
	return strings.Join(parts, semicolon)
}
