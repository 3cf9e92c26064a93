package selection

import (
	"cmp"
	"math"
	"math/rand/v2"
	"slices"
	"strings"
	"testing"

	"timetable/api"
)

// sign is a part of a selection that is written as a row: a kind, a byte of a name, or an end, which comes before both.
type sign struct {
	isMore bool
	value  int
}

// row writes a selection so that rows have the order of selections, sign by sign: a name, and a list of kids, goes on or ends.
func row(s api.Select) []sign {
	l := []sign{{true, s.Kind}}
	for i := range len(s.Name) {
		l = append(l, sign{true, int(s.Name[i])})
	}
	l = append(l, sign{})
	for _, kid := range s.Kids {
		l = append(l, row(kid)...)
	}
	return append(l, sign{})
}

func compareSigns(a, b sign) int {
	switch {
	case a.isMore && b.isMore:
		return cmp.Compare(a.value, b.value)
	case a.isMore:
		return 1
	case b.isMore:
		return -1
	}
	return 0
}

// order compares selections in another reading: by their rows.
func order(a, b api.Select) int { return slices.CompareFunc(row(a), row(b), compareSigns) }

// checkCompare checks how two selections compare, in both directions.
func checkCompare(t *testing.T, a, b api.Select, want int) {
	t.Helper()
	if n := Compare(a, b); n != want {
		t.Errorf("Compare(%.300s, %.300s) = %d, want %d", shown(a), shown(b), n, want)
	}
	if n := Compare(b, a); n != -want {
		t.Errorf("Compare(%.300s, %.300s) = %d, want %d", shown(b), shown(a), n, -want)
	}
}

// P15.2: selections in their order, valid or not.
func TestCompare(t *testing.T) {
	l := []api.Select{
		{Kind: math.MinInt, Name: "z"},
		{Kind: -1},
		{},
		{Kids: []api.Select{{}}},
		{Kids: []api.Select{{}, {}}},
		{Kids: []api.Select{{}, all()}},
		{Kids: []api.Select{all()}},
		{Name: "a"},
		all(),
		class(""), class("A"), class("A1"), class("A10"), class("A9"), class("B"), class("a"), class("\u00e9"), class("\xff"),
		pick(api.SelectCourse, "A"), pick(api.SelectPart, "A"), pick(api.SelectCurriculum, "A"), pick(api.SelectStaff, "A"), pick(api.SelectFeature, "A"),
		both(), both(all()), both(all(), all()), both(all(), all(), all()), both(all(), class("A")), both(class("A"), all()), both(both()), both(not(all())),
		{Kind: api.SelectAnd, Name: "A"},
		either(all(), all()), either(both(all(), all()), all()), either(not(class("A")), not(class("B"))), either(not(class("A")), not(class("C"))),
		not(all()), not(class("A")), not(both(all(), all())), not(not(all())),
		{Kind: 11},
		{Kind: 1 << 32},
		{Kind: math.MaxInt},
		{Kind: math.MaxInt, Name: "z"},
	}
	for i, a := range l {
		for k, b := range l {
			checkCompare(t, a, b, cmp.Compare(i, k))
			if n := order(a, b); n != cmp.Compare(i, k) {
				t.Errorf("the other reading of %s and %s: %d", shown(a), shown(b), n)
			}
		}
	}
}

// P15.2, another reading: all pairs of small selections, and some of large ones.
func TestCompareRows(t *testing.T) {
	small := []api.Select{all(), class("A"), class("AB"), class("B"), pick(api.SelectFeature, "A"), {Kind: 12, Name: "A"}, both(), {Kind: api.SelectAnd, Name: "A"}}
	l := above(small, 2)
	for _, a := range l {
		for _, b := range l {
			checkCompare(t, a, b, order(a, b))
		}
	}
	random := rand.New(rand.NewPCG(15, 2))
	for range 5000 {
		a := grow(random, small, 20, 200)
		b := copied(a)
		checkCompare(t, a, b, 0)
		change(random, &b)
		checkCompare(t, a, b, order(a, b))
	}
}

// change changes a selection at one place.
func change(random *rand.Rand, s *api.Select) {
	if n := len(s.Kids); n > 0 && random.IntN(6) > 0 {
		change(random, &s.Kids[random.IntN(n)])
		return
	}
	switch random.IntN(4) {
	case 0:
		s.Kind += random.IntN(5) - 2
	case 1:
		s.Name += "A"
	case 2:
		s.Kids = append(s.Kids, class("A"))
	case 3:
		s.Kids = s.Kids[:len(s.Kids)/2]
	}
}

// nested returns a selection that is nested so deep, in the last of its kids.
func nested(depth int, innermost api.Select) api.Select {
	for range depth - 1 {
		innermost = both(all(), innermost)
	}
	return innermost
}

// P15.2: selections that are nested deep, on either side and at any place.
func TestCompareDeep(t *testing.T) {
	for depth := 2; depth < 300; depth++ {
		want := 1
		if depth > 100 {
			want = 0
		}
		s, other := nested(depth, class("B")), nested(depth, class("A"))
		checkCompare(t, s, other, want)
		checkCompare(t, s, all(), want)
		checkCompare(t, s, nested(depth-1, class("B")), want)
		checkCompare(t, notTimes(depth-1, class("B")), all(), want)
		// What comes first decides, but only if nothing is too deep.
		checkCompare(t, both(class("B"), nested(depth-1, all())), both(class("A"), all(), all()), want)
		checkCompare(t, both(class("B"), all()), both(class("A"), nested(depth-1, all()), all()), want)
		checkCompare(t, api.Select{Kind: 12}, s, want)
		checkCompare(t, api.Select{Kind: 8, Name: "A"}, s, want)
		checkCompare(t, s, s, 0)
	}
	checkCompare(t, nested(1<<16, all()), nested(1<<16, class("A")), 0)
	checkCompare(t, notTimes(1<<16, all()), all(), 0)
}

// P15.2, R1: selections that contain themselves, and very many kids.
func TestCompareEndless(t *testing.T) {
	checkCompare(t, endless(), endless(), 0)
	for _, s := range []api.Select{{}, all(), not(all()), both(all(), all()), {Kind: 12, Name: "z"}} {
		checkCompare(t, endless(), s, 0)
		checkCompare(t, both(s, s, endless()), s, 0)
	}
	many := slices.Repeat([]api.Select{class(strings.Repeat("A", 1000))}, 1<<18)
	checkCompare(t, both(many...), both(many[1:]...), 1)
	checkCompare(t, both(many...), either(many[1:]...), -1)
}

// P15.2, R2: selections stay as they are; kids that are none are equal.
func TestCompareMemory(t *testing.T) {
	a, b := both(class("B"), not(class("A"))), both(class("B"), not(class("C")))
	beforeA, beforeB := shown(a), shown(b)
	Compare(a, b)
	checkKept(t, a, beforeA)
	checkKept(t, b, beforeB)
	checkCompare(t, all(), api.Select{Kind: api.SelectAll, Kids: []api.Select{}}, 0)
}
