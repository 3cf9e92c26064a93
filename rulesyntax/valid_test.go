package rulesyntax

import (
	"math"
	"slices"
	"strconv"
	"strings"
	"testing"

	"timetable/api"
)

// checkRule checks the error of a rule, which is that of Format, too.
func checkRule(t *testing.T, u api.Rule, want api.Errno) {
	t.Helper()
	if e := Valid(u, grid(), tenWeeks); e != want {
		t.Errorf("Valid(%.300v) = %d, want %d", u, e, want)
	}
	if s, e := Format([]api.Rule{u}, grid(), tenWeeks); e != want || (s == "") != (e != api.OK) {
		t.Errorf("Format(%.300v) = %.200q, %d, want the error %d", u, s, e, want)
	}
}

// checkChange checks the error of a rule of a kind with a change.
func checkChange(t *testing.T, kind int, want api.Errno, change func(u *api.Rule)) {
	t.Helper()
	u := rule(kind)
	change(&u)
	checkRule(t, u, want)
}

// P14.1: the grid and the number of weeks come first.
func TestValidFrame(t *testing.T) {
	for _, u := range []api.Rule{{}, {Line: -1}, rule(api.RuleApart), rule(api.RuleAvoid), rule(api.RuleRooms)} {
		for _, g := range wrongGrids() {
			if e := Valid(u, g, tenWeeks); e != api.ErrInvalid {
				t.Errorf("Valid in %v: %d", g, e)
			}
		}
		for _, weeks := range wrongWeeks() {
			if e := Valid(u, grid(), weeks); e != api.ErrInvalid {
				t.Errorf("Valid in %d weeks: %d", weeks, e)
			}
		}
	}
	for weeks := 1; weeks <= 20; weeks++ {
		u := rule(api.RuleAvoid)
		u.Times[0].Weeks = 1<<weeks - 1
		if e := Valid(u, grid(), weeks); e != api.OK {
			t.Errorf("Valid in %d weeks: %d", weeks, e)
		}
		u.Times[0].Weeks = 1 << weeks
		if e := Valid(u, grid(), weeks); e != api.ErrTime {
			t.Errorf("a time in the week %d of %d: %d", weeks+1, weeks, e)
		}
	}
}

// P14.1: names, weights, kinds and lines of rules of all kinds.
func TestValidNumbers(t *testing.T) {
	for _, kind := range kinds() {
		for _, s := range []string{"a", "9", "Z-_", "hard", "all", strings.Repeat("a", 16)} {
			checkChange(t, kind, api.OK, func(u *api.Rule) { u.Name = s })
		}
		for _, s := range wrongCodes() {
			checkChange(t, kind, api.ErrCode, func(u *api.Rule) { u.Name = s })
		}
		for _, n := range []int{0, 1, 999, 1000} {
			checkChange(t, kind, api.OK, func(u *api.Rule) { u.Weight = n })
		}
		for _, n := range []int{math.MinInt, -1, 1001, 9999, 1 << 32, math.MaxInt} {
			checkChange(t, kind, api.ErrRange, func(u *api.Rule) { u.Weight = n })
		}
		for _, n := range []int{0, 1, 48, 1 << 32, math.MaxInt} {
			checkChange(t, kind, api.OK, func(u *api.Rule) { u.Line = n })
		}
		for _, n := range []int{math.MinInt, -1 << 32, -2, -1} {
			checkChange(t, kind, api.ErrRange, func(u *api.Rule) { u.Line = n })
		}
		for _, n := range []int{math.MinInt, -1, 0, 13, 14, 1 << 32, math.MaxInt} {
			checkChange(t, kind, api.ErrInvalid, func(u *api.Rule) { u.Kind = n })
		}
	}
}

// P14.1: the number of a rule.
func TestValidN(t *testing.T) {
	for _, kind := range kinds() {
		hasN := kind == api.RuleMost || kind == api.RuleGap || kind == api.RuleSpan
		checkChange(t, kind, api.OK, func(u *api.Rule) { u.N = 0 })
		for _, n := range []int{1, 2, 23, 24} {
			want := api.OK
			if !hasN {
				want = api.ErrRange
			}
			checkChange(t, kind, want, func(u *api.Rule) { u.N = n })
		}
		for _, n := range []int{math.MinInt, -1, 25, 26, 1 << 32, math.MaxInt} {
			checkChange(t, kind, api.ErrRange, func(u *api.Rule) { u.N = n })
		}
	}
}

// P14.1: the second selection belongs to RuleBefore.
func TestValidSecond(t *testing.T) {
	for _, kind := range kinds() {
		for _, s := range []api.Select{everything(), pick(api.SelectClass, "x"), not(everything()), both(everything(), everything())} {
			want := api.ErrForm
			if kind == api.RuleBefore {
				want = api.OK
			}
			checkChange(t, kind, want, func(u *api.Rule) { u.Second = s })
		}
		want := api.OK
		if kind == api.RuleBefore {
			want = api.ErrForm
		}
		checkChange(t, kind, want, func(u *api.Rule) { u.Second = api.Select{} })
		checkChange(t, kind, want, func(u *api.Rule) { u.Second = api.Select{Kids: []api.Select{}} })
		for _, s := range []api.Select{{Name: "x"}, {Kids: []api.Select{{}}}, {Kids: []api.Select{everything()}}, {Kind: -1}, {Kind: 11}, not(api.Select{}), pick(api.SelectClass, "")} {
			checkChange(t, kind, api.ErrForm, func(u *api.Rule) { u.Second = s })
		}
	}
}

// lengthError returns the error of a list with n elements that a rule needs, or must not have.
func lengthError(n, most int, needed bool) api.Errno {
	switch {
	case !needed && n > 0:
		return api.ErrInvalid
	case needed && n == 0:
		return api.ErrEmpty
	case n > most:
		return api.ErrSize
	}
	return api.OK
}

// P14.1: the times belong to RuleAvoid.
func TestValidTimes(t *testing.T) {
	fits := api.Time{Weeks: 1, Day: 4, Start: 9, Length: 1}
	for _, kind := range kinds() {
		for n := range 30 {
			want := lengthError(n, 24, kind == api.RuleAvoid)
			checkChange(t, kind, want, func(u *api.Rule) { u.Times = slices.Repeat([]api.Time{fits}, n) })
			if want == api.OK && n > 0 {
				want = api.ErrTime
			}
			checkChange(t, kind, want, func(u *api.Rule) { u.Times = make([]api.Time, n) })
		}
	}
	for _, bad := range []api.Time{{}, {Weeks: 1, Day: 5, Length: 1}, {Weeks: 1, Day: 0, Start: 9, Length: 2}, {Weeks: 1024, Length: 1}, {Weeks: 1, Start: -1, Length: 1}, {Weeks: 1, Start: math.MaxInt, Length: math.MaxInt}} {
		for i := range 4 {
			checkChange(t, api.RuleAvoid, api.ErrTime, func(u *api.Rule) { u.Times = slices.Insert([]api.Time{fits, fits, fits}, i, bad) })
		}
	}
}

// manyRooms returns n different codes.
func manyRooms(n int) []string {
	var l []string
	for i := range n {
		l = append(l, "R"+strconv.Itoa(i))
	}
	return l
}

// P14.1: the rooms belong to RuleRooms.
func TestValidRooms(t *testing.T) {
	for _, kind := range kinds() {
		for n := range 20 {
			want := lengthError(n, 16, kind == api.RuleRooms)
			checkChange(t, kind, want, func(u *api.Rule) { u.Rooms = manyRooms(n) })
			if want == api.OK && n > 0 {
				want = api.ErrCode
			}
			checkChange(t, kind, want, func(u *api.Rule) { u.Rooms = make([]string, n) })
		}
	}
	for _, code := range wrongCodes() {
		for i := range 4 {
			checkChange(t, api.RuleRooms, api.ErrCode, func(u *api.Rule) { u.Rooms = slices.Insert(manyRooms(3), i, code) })
		}
	}
	for i := range 16 {
		for k := range i {
			checkChange(t, api.RuleRooms, api.ErrDuplicate, func(u *api.Rule) { u.Rooms = manyRooms(16); u.Rooms[i] = u.Rooms[k] })
		}
	}
	// The first element that has an error decides.
	checkChange(t, api.RuleRooms, api.ErrDuplicate, func(u *api.Rule) { u.Rooms = []string{"A", "A", "?"} })
	checkChange(t, api.RuleRooms, api.ErrCode, func(u *api.Rule) { u.Rooms = []string{"A", "?", "A"} })
	checkChange(t, api.RuleRooms, api.ErrCode, func(u *api.Rule) { u.Rooms = []string{"?", "?"} })
	checkChange(t, api.RuleRooms, api.ErrSize, func(u *api.Rule) { u.Rooms = slices.Repeat([]string{"A"}, 17) })
	checkChange(t, api.RuleRooms, api.OK, func(u *api.Rule) { u.Rooms = []string{"A1", "A01", "a1"} })
}

// P14.1: which error is returned if there are several.
func TestValidOrder(t *testing.T) {
	harms := func(kind int) []func(u *api.Rule) {
		l := []func(u *api.Rule){
			func(u *api.Rule) { u.Name = "?" },
			func(u *api.Rule) { u.Weight = -1 },
			func(u *api.Rule) { u.Kind = 13 },
			func(u *api.Rule) { u.First.Name = "x" },
			func(u *api.Rule) { u.Second = not(api.Select{}) },
			func(u *api.Rule) { u.N = 25 },
			func(u *api.Rule) { u.Times = make([]api.Time, 1) },
			func(u *api.Rule) { u.Rooms = []string{"A", "A"} },
			func(u *api.Rule) { u.Line = -1 },
		}
		if kind == api.RuleAvoid {
			l[6] = func(u *api.Rule) { u.Times = make([]api.Time, 25) }
		}
		return l
	}
	for _, kind := range kinds() {
		errors := []api.Errno{api.ErrCode, api.ErrRange, api.ErrInvalid, api.ErrForm, api.ErrForm, api.ErrRange, api.ErrInvalid, api.ErrInvalid, api.ErrRange}
		if kind == api.RuleAvoid {
			errors[6] = api.ErrSize
		}
		if kind == api.RuleRooms {
			errors[7] = api.ErrDuplicate
		}
		for set := range 1 << len(errors) {
			want, u := api.OK, rule(kind)
			for i, harm := range harms(kind) {
				if set>>i&1 == 0 {
					continue
				}
				harm(&u)
				if want == api.OK {
					want = errors[i]
				}
			}
			checkRule(t, u, want)
		}
	}
}

// checkSelect checks whether a selection is valid, as a first and as a second one, and alone.
func checkSelect(t *testing.T, s api.Select, valid bool) {
	t.Helper()
	want := api.OK
	if !valid {
		want = api.ErrForm
	}
	checkChange(t, api.RuleApart, want, func(u *api.Rule) { u.First = s })
	checkChange(t, api.RuleBefore, want, func(u *api.Rule) { u.First = s })
	checkChange(t, api.RuleBefore, want, func(u *api.Rule) { u.Second = s })
	if text, e := Select(s); e != want || (text == "") == valid {
		t.Errorf("Select(%.300v) = %.200q, %d, want the error %d", s, text, e, want)
	}
}

// P14.1, P14.3: kinds, names and numbers of kids, at each depth.
func TestValidSelect(t *testing.T) {
	least := map[int]int{api.SelectNot: 1, api.SelectAnd: 2, api.SelectOr: 2}
	most := map[int]int{api.SelectNot: 1, api.SelectAnd: 63, api.SelectOr: 63}
	for _, kind := range []int{math.MinInt, -1, 0, 1, 2, 3, 4, 5, 6, 7, 8, 9, 10, 11, 12, 1 << 32, math.MaxInt} {
		isKind := 1 <= kind && kind <= 10
		needsName := 2 <= kind && kind <= 7
		for _, n := range []int{0, 1, 2, 3, 61, 62, 63, 64, 65, 1000, 1 << 20} {
			isNumber := least[kind] <= n && n <= most[kind]
			kids := slices.Repeat([]api.Select{pick(api.SelectPart, "lec")}, n)
			for _, name := range []string{"", "x", "_", strings.Repeat("x", 16), strings.Repeat("x", 17)} {
				isCode := name != "" && name != "_" && len(name) <= 16
				valid := isKind && isNumber && (name == "" && !needsName || isCode && needsName)
				s := api.Select{Kind: kind, Name: name, Kids: kids}
				checkSelect(t, s, valid)
				checkSelect(t, not(s), valid && n < 63)
				checkSelect(t, either(everything(), s), valid && n < 62)
				checkSelect(t, both(s, everything(), everything()), valid && n < 61)
			}
		}
	}
	for _, kind := range []int{2, 3, 4, 5, 6, 7} {
		for _, name := range wrongCodes() {
			checkSelect(t, pick(kind, name), false)
			checkSelect(t, both(everything(), either(everything(), not(pick(kind, name)))), false)
		}
	}
}

// P14.1, P14.3: how deep selections are nested.
func TestValidNesting(t *testing.T) {
	for depth := 1; depth < 20; depth++ {
		valid := depth <= 8
		checkSelect(t, notTimes(depth-1, everything()), valid)
		checkSelect(t, notTimes(depth-1, pick(api.SelectFeature, "lab")), valid)
		if depth == 1 {
			continue
		}
		s := notTimes(depth-2, everything())
		checkSelect(t, both(s, everything()), valid)
		checkSelect(t, either(everything(), everything(), s), valid)
		chain := everything()
		for range depth - 1 {
			chain = either(chain, everything())
		}
		checkSelect(t, chain, valid)
	}
}

// P14.1, P14.3: how many parts selections have, at any depth.
func TestValidParts(t *testing.T) {
	for n := 2; n < 70; n++ {
		kids := slices.Repeat([]api.Select{everything()}, n)
		checkSelect(t, both(kids...), n+1 <= 64)
		checkSelect(t, notTimes(3, both(kids...)), n+4 <= 64)
		checkSelect(t, either(both(kids...), both(kids...)), 2*n+3 <= 64)
		checkSelect(t, either(not(everything()), both(kids...), everything()), n+5 <= 64)
	}
	tree := everything()
	for depth := 2; depth <= 7; depth++ {
		tree = both(tree, tree)
		checkSelect(t, tree, depth <= 6) // 63 parts with the depth 6
	}
	checkSelect(t, not(both(tree.Kids[0], everything())), false)
	checkSelect(t, not(tree.Kids[0]), true) // 64 parts
}

// R1: selections that are very large, or contain themselves; what is wrong is not printed, since it has no end.
func TestValidEndless(t *testing.T) {
	refused := func(what string, s api.Select) {
		t.Helper()
		for _, u := range []api.Rule{{Name: "a", Kind: api.RuleApart, First: s}, {Name: "a", Kind: api.RuleApart, First: everything(), Second: s}, {Name: "a", Kind: api.RuleBefore, First: everything(), Second: s}} {
			if e := Valid(u, grid(), tenWeeks); e != api.ErrForm {
				t.Errorf("%s: Valid is %d", what, e)
			}
			if text, e := Format([]api.Rule{u}, grid(), tenWeeks); text != "" || e != api.ErrForm {
				t.Errorf("%s: the error of Format is %d", what, e)
			}
		}
		if text, e := Select(s); text != "" || e != api.ErrForm {
			t.Errorf("%s: the error of Select is %d", what, e)
		}
	}
	wide := everything()
	for range 8 {
		wide = either(slices.Repeat([]api.Select{wide}, 1<<16)...)
	}
	refused("a wide one", wide)
	refused("a deep one", notTimes(1<<16, everything()))
	for _, kind := range []int{api.SelectAnd, api.SelectOr, api.SelectNot} {
		for _, n := range []int{1, 2, 3} {
			kids := make([]api.Select, n)
			for i := range kids {
				kids[i] = api.Select{Kind: kind, Kids: kids}
			}
			refused("one within itself", kids[0])
		}
	}
}
