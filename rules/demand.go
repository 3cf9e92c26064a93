package rules

import (
	"slices"

	"timetable/api"
	"timetable/rulesyntax"
	"timetable/selection"
	"timetable/travel"
)

// demand is a rule, with what it speaks of in a registry.
type demand struct {
	rule          api.Rule
	first, second []int // the classes of both selections
	rooms         []api.Room
	ways          api.Travel // also those over other buildings
}

// demandOf returns the demand of a rule for a registry, and the first error of the rule.
func demandOf(r api.Registry, u api.Rule) (demand, api.Errno) {
	first, fault := selection.Classes(r, u.First)
	if fault == api.ErrInvalid { // that of the registry, which comes before all errors of the rule
		return demand{}, fault
	}
	if e := rulesyntax.Valid(u, r.Grid, r.Term.Weeks); e != api.OK {
		return demand{}, e
	}
	if fault != api.OK {
		return demand{}, fault
	}
	second, e := secondOf(r, u)
	switch {
	case e != api.OK:
		return demand{}, e
	case !areRooms(r, u.Rooms):
		return demand{}, api.ErrUnknown
	}
	// There is no error, since the table of a valid registry is valid.
	ways, _ := travel.Close(r.Travel)
	return demand{u, first, second, r.Rooms, ways}, api.OK
}

// secondOf returns the classes of the second selection of a rule.
func secondOf(r api.Registry, u api.Rule) ([]int, api.Errno) {
	if u.Kind != api.RuleBefore {
		return nil, api.OK
	}
	return selection.Classes(r, u.Second)
}

// areRooms reports whether all codes are those of rooms.
func areRooms(r api.Registry, codes []string) bool {
	isUnknown := func(code string) bool {
		return !slices.ContainsFunc(r.Rooms, func(room api.Room) bool { return room.Code == code })
	}
	return !slices.ContainsFunc(codes, isUnknown)
}

// together returns the violations by two classes in their places.
func (d demand) together(i, k int, a, b api.Placed) int {
	if d.rule.Kind == api.RuleBefore { // the only one for which it matters which class is the first
		return d.inOrder(i, k, a, b) + d.inOrder(k, i, b, a)
	}
	return count(d.isOfFirst(i) && d.isOfFirst(k) && d.isBrokenBy(a, b))
}

// inOrder returns the violations by a class of the first selection and one of the second.
func (d demand) inOrder(i, k int, a, b api.Placed) int {
	return count(d.isOfFirst(i) && slices.Contains(d.second, k) && d.isBrokenBy(a, b))
}

// alone returns the violations by a class in a place.
func (d demand) alone(i int, a api.Placed) int {
	return count(d.isOfFirst(i) && d.isWrong(a))
}

func (d demand) isOfFirst(i int) bool { return slices.Contains(d.first, i) }

// count returns how many violations there are, if there is at most one.
func count(violated bool) int {
	if violated {
		return 1
	}
	return 0
}
