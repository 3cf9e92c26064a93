package timegrid

import (
	"strings"

	"timetable/api"
	"timetable/numerals"
	"timetable/weekset"
)

const (
	space     = " "   // between the words of a time
	allWeeks  = "all" // the set of weeks that is meant if none is written
	maxDigits = 2     // of the number of a slot
)

// days are the names of the days.
var days = [api.MaxDays]string{"Mo", "Tu", "We", "Th", "Fr", "Sa", "Su"}

// Parse reads a time.
func Parse(g api.Grid, weeks int, s string) (api.Time, api.Errno) {
	if !isFrame(g, weeks) {
		return api.Time{}, api.ErrInvalid
	}
	name, slots, set, ok := cutWords(s)
	day, isDay := dayOf(name)
	from, to, isSpan := numerals.ReadSpan(slots, maxDigits)
	switch {
	case !ok || !isDay || !isSpan:
		return api.Time{}, api.ErrForm
	case day >= g.Days || from > to || to > g.Slots:
		return api.Time{}, api.ErrTime
	}
	n, e := weekset.Parse(set, weeks)
	if e != api.OK {
		return api.Time{}, e
	}
	return api.Time{Weeks: n, Day: day, Start: from - 1, Length: to - from + 1}, api.OK
}

// Format returns the text of a time.
func Format(g api.Grid, weeks int, t api.Time) (string, api.Errno) {
	if e := Fits(g, weeks, t); e != api.OK {
		return "", e
	}
	s := days[t.Day] + space + numerals.WriteSpan(t.Start+1, endOf(t))
	// There is no error, since a time that fits has a valid set.
	if set, _ := weekset.Format(t.Weeks, weeks); set != allWeeks {
		s += space + set
	}
	return s, api.OK
}

// cutWords divides the text of a time at its spaces; false if nothing, or another space, comes behind the second one. Without a second one, all weeks are meant.
func cutWords(s string) (day, slots, set string, ok bool) {
	day, rest, _ := strings.Cut(s, space)
	slots, set, isThree := strings.Cut(rest, space)
	if !isThree {
		set = allWeeks
	}
	return day, slots, set, set != "" && !strings.Contains(set, space)
}

// dayOf returns the day with a name; false if there is none.
func dayOf(name string) (int, bool) {
	for i, day := range days {
		if day == name {
			return i, true
		}
	}
	return 0, false
}
