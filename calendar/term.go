package calendar

import (
	"slices"

	"timetable/api"
)

const mostHolidays = 64

// Valid returns the first error of a term.
func Valid(t api.Term) api.Errno {
	switch {
	case Weekday(t.First) != 0:
		return api.ErrDate
	case t.Weeks < 1 || t.Weeks > api.MaxWeeks:
		return api.ErrRange
	case !isDay(lastOf(t)):
		return api.ErrDate
	case len(t.Holidays) > mostHolidays:
		return api.ErrSize
	}
	return checkHolidays(t)
}

// At returns a day of a term.
func At(t api.Term, week, weekday int) (int, bool) {
	if Valid(t) != api.OK || week < 1 || week > t.Weeks || weekday < 0 || weekday >= weekdays {
		return 0, false
	}
	day := t.First + weekdays*(week-1) + weekday
	if slices.Contains(t.Holidays, day) {
		return 0, false
	}
	return day, true
}

// Where returns the place of a day in a term.
func Where(t api.Term, day int) (week, weekday int, ok bool) {
	if Valid(t) != api.OK || !belongs(t, day) || slices.Contains(t.Holidays, day) {
		return 0, 0, false
	}
	return (day-t.First)/weekdays + 1, Weekday(day), true
}

// Days returns the days on which a time takes place.
func Days(t api.Term, tm api.Time) []int {
	if tm.Weeks < 0 {
		return nil
	}
	var l []int
	for i := range api.MaxWeeks {
		if tm.Weeks>>i&1 == 0 {
			continue
		}
		if day, ok := At(t, i+1, tm.Day); ok {
			l = append(l, day)
		}
	}
	return l
}

// lastOf returns the last day of a term.
func lastOf(t api.Term) int { return t.First + weekdays*t.Weeks - 1 }

// belongs reports whether a day is one of the term, be it a holiday or not.
func belongs(t api.Term, day int) bool { return t.First <= day && day <= lastOf(t) }

// checkHolidays returns the first error of the holidays of a term.
func checkHolidays(t api.Term) api.Errno {
	for i, day := range t.Holidays {
		switch {
		case !belongs(t, day):
			return api.ErrDate
		case i > 0 && day <= t.Holidays[i-1]:
			return api.ErrDuplicate
		}
	}
	return api.OK
}
