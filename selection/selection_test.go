package selection

import (
	"fmt"
	"math/rand/v2"
	"slices"
	"strings"
	"testing"

	"timetable/api"
)

// pick returns a selection without kids.
func pick(kind int, name string) api.Select { return api.Select{Kind: kind, Name: name} }

func all() api.Select { return pick(api.SelectAll, "") }

// class returns the selection of the class with a code.
func class(code string) api.Select { return pick(api.SelectClass, code) }

// join returns a selection of a kind with kids.
func join(kind int, kids ...api.Select) api.Select { return api.Select{Kind: kind, Kids: kids} }

func both(kids ...api.Select) api.Select { return join(api.SelectAnd, kids...) }

func either(kids ...api.Select) api.Select { return join(api.SelectOr, kids...) }

func not(kid api.Select) api.Select { return join(api.SelectNot, kid) }

// notTimes returns a selection below so many SelectNot.
func notTimes(n int, s api.Select) api.Select {
	if n == 0 {
		return s
	}
	return not(notTimes(n-1, s))
}

// shown writes a selection; kids that are none look the same, whether they are nil or not.
func shown(s api.Select) string { return fmt.Sprintf("%+v", s) }

// copied returns a selection in new memory.
func copied(s api.Select) api.Select {
	var kids []api.Select
	for _, kid := range s.Kids {
		kids = append(kids, copied(kid))
	}
	return api.Select{Kind: s.Kind, Name: s.Name, Kids: kids}
}

// lists returns all lists of n of the selections.
func lists(l []api.Select, n int) [][]api.Select {
	if n == 0 {
		return [][]api.Select{nil}
	}
	var all [][]api.Select
	for _, head := range lists(l, n-1) {
		for _, s := range l {
			all = append(all, append(slices.Clone(head), s))
		}
	}
	return all
}

// above returns the selections, and all whose kids they can be, with at most so many kids.
func above(l []api.Select, most int) []api.Select {
	all := slices.Clone(l)
	for _, s := range l {
		all = append(all, not(s))
	}
	for n := 2; n <= most; n++ {
		for _, kids := range lists(l, n) {
			all = append(all, both(kids...), either(kids...))
		}
	}
	return all
}

// grow returns a selection of the leaves that is nested at most so many levels deep, and has at most so many parts.
func grow(random *rand.Rand, leaves []api.Select, levels, parts int) api.Select {
	if levels == 1 || parts < 3 || random.IntN(8) == 0 {
		return leaves[random.IntN(len(leaves))]
	}
	n := 1 + random.IntN(min(4, parts-1))
	var kids []api.Select
	for range n {
		kids = append(kids, grow(random, leaves, levels-1, (parts-1)/n))
	}
	if n == 1 {
		return not(kids[0])
	}
	return join(api.SelectAnd+random.IntN(2), kids...)
}

// invalids are selections that are not valid.
func invalids() []api.Select {
	l := []api.Select{
		{},
		{Kind: -1},
		{Kind: 11},
		{Kind: 1 << 32, Name: "x"},
		pick(api.SelectAll, "x"),
		{Kind: api.SelectAll, Kids: []api.Select{all()}},
		{Kind: api.SelectCourse, Name: "MA", Kids: []api.Select{all()}},
		both(),
		both(all()),
		either(),
		either(class("x")),
		{Kind: api.SelectNot},
		{Kind: api.SelectNot, Kids: []api.Select{all(), all()}},
		{Kind: api.SelectNot, Name: "x", Kids: []api.Select{all()}},
		{Kind: api.SelectOr, Name: "x", Kids: []api.Select{all(), all()}},
		notTimes(8, all()),
		both(slices.Repeat([]api.Select{all()}, 64)...),
		either(both(slices.Repeat([]api.Select{all()}, 62)...), all()),
		endless(),
	}
	for kind := api.SelectClass; kind <= api.SelectFeature; kind++ {
		for _, name := range []string{"", "_", "?", "a b", "x\xff", strings.Repeat("x", 17)} {
			l = append(l, pick(kind, name))
		}
	}
	for _, s := range slices.Clone(l) {
		l = append(l, not(s), both(all(), s), either(s, all()), either(all(), both(all(), not(s))))
	}
	return l
}

// endless returns a selection that contains itself.
func endless() api.Select {
	kids := make([]api.Select, 2)
	kids[0], kids[1] = both(kids...), either(kids...)
	return both(kids...)
}

// checkKept checks that a selection is as it was.
func checkKept(t *testing.T, s api.Select, before string) {
	t.Helper()
	if shown(s) != before {
		t.Errorf("%.300s became %.300s", before, shown(s))
	}
}
