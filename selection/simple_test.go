package selection

import (
	"math/rand/v2"
	"slices"
	"testing"

	"timetable/api"
	"timetable/rulesyntax"
)

func checkSimple(t *testing.T, s, want api.Select) {
	t.Helper()
	if got, e := Simple(s); shown(got) != shown(want) || e != api.OK {
		t.Errorf("Simple(%.300s) = %.300s, %d; want %.300s", shown(s), shown(got), e, shown(want))
	}
}

// checkTexts checks the simple form of a selection, both as texts.
func checkTexts(t *testing.T, from, to string) {
	t.Helper()
	l, p := rulesyntax.Parse("a: hard before "+from+", "+to, api.Grid{Days: 5, Slots: 10, Begin: 480, Minutes: 45}, 10)
	if len(p) > 0 {
		t.Fatalf("%s, %s: %v", from, to, p)
	}
	checkSimple(t, l[0].First, l[0].Second)
}

// P15.3: each step of the simple form.
func TestSimple(t *testing.T) {
	for _, x := range [][2]string{
		// The examples.
		{"not (course A and part L)", "not course A or not part L"},
		{"not (course A or part L)", "not course A and not part L"},
		{"all and staff ada", "staff ada"},
		{"course A and course A", "course A"},
		// What is simple already.
		{"all", "all"},
		{"class X", "class X"},
		{"feature lab", "feature lab"},
		{"not all", "not all"},
		{"not class X", "not class X"},
		{"class A and class B", "class A and class B"},
		{"class A and (class B or not class C)", "class A and (class B or not class C)"},
		{"class A or class B and class C", "class A or class B and class C"},
		// Twice not.
		{"not not class X", "class X"},
		{"not not not class X", "not class X"},
		{"not not not not all", "all"},
		{"not not (class B or class A)", "class A or class B"},
		{"not (not class B and not class A)", "class A or class B"},
		// Not of several.
		{"not (class B or class A)", "not class A and not class B"},
		{"not (class B and (class A or not class C))", "class C and not class A or not class B"},
		{"not (class A and not (class B and not class C))", "class B and not class C or not class A"},
		// The same kind.
		{"class A and (class B and class C)", "class A and class B and class C"},
		{"(class C or class A) or (class B or class D)", "class A or class B or class C or class D"},
		{"class D and not (class A or not (class C and class B))", "class B and class C and class D and not class A"},
		{"class A and not (class B and class C)", "class A and (not class B or not class C)"},
		// The order, and each once.
		{"not class A and class A", "class A and not class A"},
		{"feature A or staff A or curriculum A or part A or course A or class A", "class A or course A or part A or curriculum A or staff A or feature A"},
		{"class A9 and class A10 and class b and class B", "class A10 and class A9 and class B and class b"},
		{"class B and class A and class B and class A", "class A and class B"},
		{"(class B and class A) or (class A and class B)", "class A and class B"},
		{"(class A or class B) and class C and (class B or class A)", "class C and (class A or class B)"},
		{"class C and class B or class C or class A and class B", "class C or class A and class B or class B and class C"},
		// All and nothing.
		{"all and all", "all"},
		{"all or all", "all"},
		{"not all and not all", "not all"},
		{"not all or not all", "not all"},
		{"all and not all", "not all"},
		{"all or not all", "all"},
		{"class A and all and class B", "class A and class B"},
		{"class A or all or class B", "all"},
		{"class A and not all and class B", "not all"},
		{"class A or not all or class B", "class A or class B"},
		{"class A or not all", "class A"},
		{"class A and (class B or all)", "class A"},
		{"class A and (not all or not (class B and all))", "class A and not class B"},
		{"not (all and all)", "not all"},
		{"class A and (all or class B) and (class C and all)", "class A and class C"},
		// Nothing is concluded from a selection and its opposite.
		{"class A or not class A", "class A or not class A"},
		{"not (class A and not class A)", "class A or not class A"},
		{"class A and (class A or class B)", "class A and (class A or class B)"},
	} {
		checkTexts(t, x[0], x[1])
	}
}

// opposite returns the other one of SelectAnd and SelectOr.
func opposite(kind int) int { return api.SelectAnd + api.SelectOr - kind }

// reading follows the definition word by word.
func reading(s api.Select) api.Select {
	var kids []api.Select
	for _, kid := range s.Kids {
		kids = append(kids, reading(kid))
	}
	if s.Kind == api.SelectAnd || s.Kind == api.SelectOr {
		return readMany(s.Kind, kids)
	}
	if s.Kind != api.SelectNot || kids[0].Kind < api.SelectAnd {
		return api.Select{Kind: s.Kind, Name: s.Name, Kids: kids}
	}
	if kids[0].Kind == api.SelectNot {
		return kids[0].Kids[0]
	}
	turned := api.Select{Kind: opposite(kids[0].Kind)}
	for _, kid := range kids[0].Kids {
		turned.Kids = append(turned.Kids, not(kid))
	}
	return reading(turned)
}

// readMany follows what the definition says of SelectAnd and SelectOr; kids are put at their place one by one.
func readMany(kind int, kids []api.Select) api.Select {
	leftOut, result := all(), not(all())
	if kind == api.SelectOr {
		leftOut, result = result, leftOut
	}
	s := api.Select{Kind: kind}
	for _, kid := range kids {
		inner := []api.Select{kid}
		if kid.Kind == kind {
			inner = kid.Kids
		}
		for _, k := range inner {
			at, found := slices.BinarySearchFunc(s.Kids, k, order)
			if shown(k) == shown(result) {
				return result
			}
			if !found && shown(k) != shown(leftOut) {
				s.Kids = slices.Insert(s.Kids, at, k)
			}
		}
	}
	switch len(s.Kids) {
	case 0:
		return leftOut
	case 1:
		return s.Kids[0]
	}
	return s
}

// isSimple reports whether a selection looks like a simple form.
func isSimple(s api.Select) bool {
	isBad := func(kid api.Select) bool {
		return kid.Kind == s.Kind || shown(kid) == shown(all()) || shown(kid) == shown(not(all())) || !isSimple(kid)
	}
	switch s.Kind {
	case api.SelectNot:
		return len(s.Kids[0].Kids) == 0
	case api.SelectAnd, api.SelectOr:
		isAscending := slices.IsSortedFunc(s.Kids, func(a, b api.Select) int { return cmpStrictly(order(a, b)) })
		return len(s.Kids) >= 2 && isAscending && !slices.ContainsFunc(s.Kids, isBad)
	}
	return len(s.Kids) == 0
}

// cmpStrictly makes what is equal count as a wrong order.
func cmpStrictly(n int) int {
	if n == 0 {
		return -1
	}
	return n
}

// checkReading checks the simple form with another reading, its looks, its meaning, and that it is its own simple form.
func checkReading(t *testing.T, s api.Select) {
	t.Helper()
	checkSimple(t, s, reading(s))
	got, _ := Simple(s)
	if !isSimple(got) {
		t.Errorf("the simple form of %s is %s", shown(s), shown(got))
	}
	if meaning(got) != meaning(s) {
		t.Errorf("%s and its simple form %s mean other classes", shown(s), shown(got))
	}
	if again, e := Simple(got); e == api.OK && shown(again) != shown(got) {
		t.Errorf("%s has the simple form %s", shown(got), shown(again))
	}
}

// P15.3 and its consequences, another reading: all small selections, and some of large ones.
func TestSimpleReading(t *testing.T) {
	l := []api.Select{all(), class("x"), pick(api.SelectPart, "lec")}
	for _, s := range above(above(l, 2), 2) {
		checkReading(t, s)
		checkReading(t, not(s))
		checkReading(t, either(s, both(class("x"), not(s))))
	}
	for _, s := range above(above(l[:2], 3), 2) {
		checkReading(t, s)
	}
	random := rand.New(rand.NewPCG(15, 3))
	for range 3000 {
		checkReading(t, grow(random, leaves(), 8, 64))
	}
}

// P15.3: the simple form means the same classes to Classes, too.
func TestSimpleClasses(t *testing.T) {
	r := words()
	random := rand.New(rand.NewPCG(15, 4))
	for range 2000 {
		s, _ := Simple(grow(random, leaves(), 6, 30))
		checkMeaning(t, r, s)
	}
}

// P15.3: selections that are not valid.
func TestSimpleForm(t *testing.T) {
	for _, s := range invalids() {
		if got, e := Simple(s); e != api.ErrForm || shown(got) != shown(api.Select{}) {
			t.Errorf("Simple(%.300s) = %.300s, %d", shown(s), shown(got), e)
		}
	}
}

// P15.3: the greatest selections; the simple form may be too great to be valid.
func TestSimpleLimits(t *testing.T) {
	checkSimple(t, notTimes(7, class("x")), not(class("x")))
	var kids, turned []api.Select
	for i := range 62 {
		name := string([]byte{byte('a' + i/10), byte('0' + i%10)})
		kids = append(kids, class(name))
		turned = append(turned, not(class(name)))
	}
	checkSimple(t, both(slices.Insert(slices.Clone(kids), 0, class("zz"))...), both(slices.Concat(kids, []api.Select{class("zz")})...))
	large := either(turned...)
	checkSimple(t, not(both(kids...)), large)
	if _, e := Simple(large); e != api.ErrForm {
		t.Errorf("125 parts: %d", e)
	}
	s, want := class("x"), class("x")
	for i := range 7 {
		s, want = join(api.SelectAnd+i%2, s, kids[i]), join(api.SelectAnd+i%2, kids[i], want)
	}
	checkSimple(t, s, want)
}

// numbered gives all parts of a selection different kinds and names, and returns how many they are.
func numbered(s *api.Select, n int) int {
	s.Kind, s.Name = n, "changed"
	n++
	for i := range s.Kids {
		n = numbered(&s.Kids[i], n)
	}
	return n
}

// kindsOf returns the kinds of all parts of a selection.
func kindsOf(s api.Select) []int {
	l := []int{s.Kind}
	for _, kid := range s.Kids {
		l = append(l, kindsOf(kid)...)
	}
	return l
}

// P15.3, R2: the simple form has memory of its own, and no part shares it with another one.
func TestSimpleMemory(t *testing.T) {
	random := rand.New(rand.NewPCG(15, 5))
	for range 2000 {
		s := grow(random, leaves(), 8, 64)
		s = both(s, not(s), s)
		before := shown(s)
		got, _ := Simple(s)
		n := numbered(&got, 0)
		checkKept(t, s, before)
		for i, kind := range kindsOf(got) {
			if kind != i {
				t.Errorf("the part %d of %d of the simple form of %s became %d", i, n, before, kind)
			}
		}
	}
}
