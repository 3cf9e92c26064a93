package model

import (
	"slices"

	"timetable/api"
	"timetable/timegrid"
)

// The rules that are always there.
const (
	ruleRooms = iota // classes in one room do not overlap
	ruleStaff        // classes with a common lecturer do not overlap
	ruleCount
)

// clashesOf returns, for each rule, the pairs of classes of which some options break it together.
func clashesOf(r api.Registry, classes [][]api.Option) []api.Pair {
	var l []api.Pair
	for rule := range ruleCount {
		for i, first := range classes {
			for k := i + 1; k < len(classes); k++ {
				clash := clashOf(rule, r.Classes[i], r.Classes[k])
				table := tableOf(first, classes[k], clash)
				if slices.Contains(table, api.Forbidden) {
					l = append(l, api.Pair{First: i, Second: k, Rule: rule, Table: table})
				}
			}
		}
	}
	return l
}

// clashOf returns a function that reports whether two classes in these places break a rule.
func clashOf(rule int, c, d api.Class) func(a, b api.Placed) bool {
	if rule == ruleRooms {
		return func(a, b api.Placed) bool {
			return a.Room != noRoom && a.Room == b.Room && timegrid.Overlap(a.Time, b.Time)
		}
	}
	teachesBoth := func(code string) bool { return slices.Contains(d.Staff, code) }
	haveCommon := slices.ContainsFunc(c.Staff, teachesBoth)
	return func(a, b api.Placed) bool { return haveCommon && timegrid.Overlap(a.Time, b.Time) }
}

// tableOf returns an entry for each two options, which is Forbidden where they clash.
func tableOf(first, second []api.Option, clash func(a, b api.Placed) bool) []int {
	var table []int
	for _, a := range first {
		for _, b := range second {
			entry := 0
			if clash(a.Place, b.Place) {
				entry = api.Forbidden
			}
			table = append(table, entry)
		}
	}
	return table
}
