package selection

import (
	"cmp"
	"slices"

	"timetable/api"
)

// mostLevels is how deep selections that are compared may be nested.
const mostLevels = 100

// isDeeper reports whether a selection is nested more than so many levels deep.
func isDeeper(s api.Select, levels int) bool {
	return levels == 0 || slices.ContainsFunc(s.Kids, func(kid api.Select) bool { return isDeeper(kid, levels-1) })
}

// compare compares two selections by their order.
func compare(a, b api.Select) int {
	if n := cmp.Or(cmp.Compare(a.Kind, b.Kind), cmp.Compare(a.Name, b.Name)); n != 0 {
		return n
	}
	return slices.CompareFunc(a.Kids, b.Kids, compare)
}

func isEqual(a, b api.Select) bool { return compare(a, b) == 0 }
