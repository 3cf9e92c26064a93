package selection

import (
	"slices"

	"timetable/api"
)

// simple returns the simple form of a valid selection.
func simple(s api.Select) api.Select {
	switch s.Kind {
	case api.SelectNot:
		return negated(simple(s.Kids[0]))
	case api.SelectAnd, api.SelectOr:
		return joined(s.Kind, s.Kids, simple)
	}
	return api.Select{Kind: s.Kind, Name: s.Name}
}

// negated returns the simple form of SelectNot of a selection that has the simple form.
func negated(s api.Select) api.Select {
	switch s.Kind {
	case api.SelectNot:
		return s.Kids[0]
	case api.SelectAnd:
		return joined(api.SelectOr, s.Kids, negated)
	case api.SelectOr:
		return joined(api.SelectAnd, s.Kids, negated)
	}
	return api.Select{Kind: api.SelectNot, Kids: []api.Select{s}}
}

// joined returns the simple form of a SelectAnd or SelectOr of kids, each turned by a function that returns simple forms.
func joined(kind int, kids []api.Select, turned func(kid api.Select) api.Select) api.Select {
	neutral, deciding := everything(), negated(everything())
	if kind == api.SelectOr {
		neutral, deciding = deciding, neutral
	}
	l := flat(kind, kids, turned)
	if slices.ContainsFunc(l, func(kid api.Select) bool { return isEqual(kid, deciding) }) {
		return deciding
	}
	l = slices.DeleteFunc(l, func(kid api.Select) bool { return isEqual(kid, neutral) })
	slices.SortFunc(l, compare)
	l = slices.CompactFunc(l, isEqual)
	switch len(l) {
	case 0:
		return neutral
	case 1:
		return l[0]
	}
	return api.Select{Kind: kind, Kids: l}
}

// flat returns the kids as a function turns them, but instead of those of the kind their kids.
func flat(kind int, kids []api.Select, turned func(kid api.Select) api.Select) []api.Select {
	var l []api.Select
	for _, kid := range kids {
		if kid = turned(kid); kid.Kind == kind {
			l = append(l, kid.Kids...)
		} else {
			l = append(l, kid)
		}
	}
	return l
}

func everything() api.Select { return api.Select{Kind: api.SelectAll} }
