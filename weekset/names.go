package weekset

import "timetable/api"

const (
	everyWeek = 1<<api.MaxWeeks - 1
	oddWeeks  = 0b0101_0101_0101_0101_0101
	evenWeeks = everyWeek &^ oddWeeks
)

// named is a set with a name: which weeks it has, and in which halves of a term.
type named struct {
	name          string
	weeks         int
	first, second bool
}

// names are the sets with names, in the order in which Format tries them.
var names = [...]named{
	{"all", everyWeek, true, true},
	{"odd", oddWeeks, true, true},
	{"even", evenWeeks, true, true},
	{"first", everyWeek, true, false},
	{"second", everyWeek, false, true},
}

// in returns the weeks that a set with a name has in a term of n weeks.
func (x named) in(n int) int {
	from, to, half := 1, n, (n+1)/2
	if !x.first {
		from = half + 1
	}
	if !x.second {
		to = half
	}
	return span(from, to) & x.weeks
}

// setOf returns the set with a name in a term of n weeks; false if there is no such name.
func setOf(name string, n int) (int, bool) {
	for _, x := range names {
		if x.name == name {
			return x.in(n), true
		}
	}
	return 0, false
}

// nameOf returns the first name that fits a set in a term of n weeks; false if none does.
func nameOf(set, n int) (string, bool) {
	for _, x := range names {
		if x.in(n) == set {
			return x.name, true
		}
	}
	return "", false
}
