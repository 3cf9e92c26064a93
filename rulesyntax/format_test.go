package rulesyntax

import (
	"fmt"
	"math/rand"
	"slices"
	"strings"
	"testing"

	"timetable/api"
)

// P14.3: the text of a rule of each kind, which Parse reads.
func TestFormat(t *testing.T) {
	ada, x := pick(api.SelectStaff, "ada"), pick(api.SelectClass, "x")
	monday := api.Time{Weeks: 1023, Start: 4, Length: 2}
	for text, u := range map[string]api.Rule{
		"apart staff ada":     {Kind: api.RuleApart, First: ada},
		"sameday all":         {Kind: api.RuleSameDay, First: everything()},
		"otherday class x":    {Kind: api.RuleOtherDay, First: x},
		"sameroom course MA":  {Kind: api.RuleSameRoom, First: pick(api.SelectCourse, "MA")},
		"samestart part lec":  {Kind: api.RuleSameStart, First: pick(api.SelectPart, "lec")},
		"travel feature lab":  {Kind: api.RuleTravel, First: pick(api.SelectFeature, "lab")},
		"most 0 all":          {Kind: api.RuleMost, First: everything()},
		"gap 24 curriculum c": {Kind: api.RuleGap, N: 24, First: pick(api.SelectCurriculum, "c")},
		"span 7 not all":      {Kind: api.RuleSpan, N: 7, First: not(everything())},
		"before staff ada or class x, not (staff ada or class x)": {Kind: api.RuleBefore, First: either(ada, x), Second: not(either(ada, x))},
		"avoid all, [Mo 5-6]": {Kind: api.RuleAvoid, First: everything(), Times: []api.Time{monday}},
		"avoid all and class x, [Mo 5-6; Fr 10 odd; Mo 5-6; Tu 1-10 1-3,7]": {Kind: api.RuleAvoid, First: both(everything(), x), Times: []api.Time{monday, {Weeks: 341, Day: 4, Start: 9, Length: 1}, monday, {Weeks: 71, Day: 1, Length: 10}}},
		"rooms staff ada, [R1]":           {Kind: api.RuleRooms, First: ada, Rooms: []string{"R1"}},
		"rooms staff ada, [R1;R2]":        {Kind: api.RuleRooms, First: ada, Rooms: []string{"R1", "R2"}},
		"rooms staff ada, [X;R08..R10;A]": {Kind: api.RuleRooms, First: ada, Rooms: []string{"X", "R08", "R09", "R10", "A"}},
	} {
		for _, x := range []struct {
			weight int
			word   string
		}{{0, "hard"}, {1, "1"}, {10, "10"}, {999, "999"}, {1000, "1000"}} {
			for _, name := range []string{"a", "hard", "7", "x-_", strings.Repeat("n", 16)} {
				u.Name, u.Weight, u.Line = name, x.weight, 7
				line := name + ": " + x.word + " " + text + "\n"
				checkFormat(t, []api.Rule{u}, line, api.OK)
				u.Line = 1
				checkParse(t, line, []api.Rule{u})
			}
		}
	}
	checkFormat(t, nil, "", api.OK)
	checkFormat(t, []api.Rule{}, "", api.OK)
	two := []api.Rule{rule(api.RuleApart), rule(api.RuleMost)}
	two[1].Name = "A"
	checkFormat(t, two, "a: 5 apart all\nA: 5 most 2 all\n", api.OK)
	slices.Reverse(two)
	checkFormat(t, two, "A: 5 most 2 all\na: 5 apart all\n", api.OK)
}

// P14.3: where parentheses stand, and where not.
func TestSelect(t *testing.T) {
	all, x, y := everything(), pick(api.SelectClass, "x"), pick(api.SelectStaff, "y")
	for text, s := range map[string]api.Select{
		"all":                     all,
		"class x":                 x,
		"course x":                pick(api.SelectCourse, "x"),
		"part x":                  pick(api.SelectPart, "x"),
		"curriculum x":            pick(api.SelectCurriculum, "x"),
		"staff y":                 y,
		"feature x":               pick(api.SelectFeature, "x"),
		"not all":                 not(all),
		"not class x":             not(x),
		"not not class x":         not(not(x)),
		"all and class x":         both(all, x),
		"all or class x":          either(all, x),
		"all or class x and all":  either(all, both(x, all)),
		"all and class x or all":  either(both(all, x), all),
		"not (all and class x)":   not(both(all, x)),
		"not (all or class x)":    not(either(all, x)),
		"not not (all or all)":    not(not(either(all, all))),
		"not all and not class x": both(not(all), not(x)),
		"not all or not class x":  either(not(all), not(x)),
		"(all or class x) and (all and class x) and staff y":           both(either(all, x), both(all, x), y),
		"(all or class x) or all and class x or staff y":               either(either(all, x), both(all, x), y),
		"all and (class x or staff y and (all or all))":                both(all, either(x, both(y, either(all, all)))),
		"all or not (class x and (staff y and all)) and (all and all)": either(all, both(not(both(x, both(y, all))), both(all, all))),
		"all or not (not class x or all)":                              either(all, not(either(not(x), all))),
		"class and or class or and class not":                          either(pick(api.SelectClass, "and"), both(pick(api.SelectClass, "or"), pick(api.SelectClass, "not"))),
	} {
		if got, e := Select(s); got != text || e != api.OK {
			t.Errorf("Select(%v) = %q, %d; want %q", s, got, e, text)
		}
		checkSelection(t, text, s)
	}
}

// P14.3: which error is returned if there are several; for each rule that of Valid, and then whether its name is an earlier one.
func TestFormatErrors(t *testing.T) {
	good, other, bad, worse := rule(api.RuleApart), rule(api.RuleMost), rule(api.RuleApart), rule(api.RuleRooms)
	other.Name, bad.Weight, worse.Name = "b", 1001, "?"
	for _, x := range []struct {
		l []api.Rule
		e api.Errno
	}{
		{[]api.Rule{bad}, api.ErrRange},
		{[]api.Rule{worse}, api.ErrCode},
		{[]api.Rule{good, bad}, api.ErrRange},
		{[]api.Rule{good, other, worse, bad}, api.ErrCode},
		{[]api.Rule{good, other, bad, worse}, api.ErrRange},
		{[]api.Rule{good, good}, api.ErrDuplicate},
		{[]api.Rule{good, other, good}, api.ErrDuplicate},
		{[]api.Rule{good, other, other}, api.ErrDuplicate},
		{[]api.Rule{good, other, good, bad}, api.ErrDuplicate},
		{[]api.Rule{good, worse, good}, api.ErrCode},
		{make([]api.Rule, 48), api.ErrCode},
		{make([]api.Rule, 49), api.ErrSize},
		{make([]api.Rule, 1<<20), api.ErrSize},
		{slices.Repeat([]api.Rule{good}, 49), api.ErrSize},
		{slices.Repeat([]api.Rule{good}, 48), api.ErrDuplicate},
	} {
		checkFormat(t, x.l, "", x.e)
	}
	for _, g := range wrongGrids() {
		for _, l := range [][]api.Rule{{good}, {bad, good}, {good, good}} {
			if s, e := Format(l, g, tenWeeks); s != "" || e != api.ErrInvalid {
				t.Errorf("Format in %v: %q, %d", g, s, e)
			}
		}
		if s, e := Format(make([]api.Rule, 49), g, tenWeeks); s != "" || e != api.ErrSize {
			t.Errorf("Format in %v: %q, %d", g, s, e)
		}
	}
	for _, weeks := range wrongWeeks() {
		if s, e := Format([]api.Rule{good}, grid(), weeks); s != "" || e != api.ErrInvalid {
			t.Errorf("Format in %d weeks: %q, %d", weeks, s, e)
		}
	}
}

// P14.3: as many rules as there can be, and a text of every length about MaxFile.
func TestFormatSize(t *testing.T) {
	longest := either(slices.Repeat([]api.Select{pick(api.SelectCurriculum, strings.Repeat("x", 16))}, 63)...)
	var l []api.Rule
	for i := range 48 {
		l = append(l, api.Rule{Name: fmt.Sprintf("r%02d", i), Weight: 1, Kind: api.RuleApart, First: everything()})
	}
	s, e := Format(l, grid(), tenWeeks)
	if strings.Count(s, "\n") != 48 || e != api.OK {
		t.Errorf("Format: %q, %d", s, e)
	}
	checkFormat(t, append(slices.Clone(l), l[0]), "", api.ErrSize)
	for i := range 33 {
		l[i].First = longest
	}
	s, _ = Format(l, grid(), tenWeeks) // some hundred bytes fewer than MaxFile
	tried := map[int]bool{}
	for n := 10; n < 25; n++ {
		for k := range 32 {
			last := slices.Repeat([]api.Select{pick(api.SelectCurriculum, strings.Repeat("x", 16))}, n)
			for i := range k {
				last[i%n].Name = last[i%n].Name[1:]
			}
			l[47].First = either(last...)
			text, _ := Select(l[47].First)
			size := len(s) - len("all") + len(text)
			tried[size] = true
			got, e := Format(l, grid(), tenWeeks)
			if size <= 1<<16 && (e != api.OK || len(got) != size) || size > 1<<16 && (e != api.ErrSize || got != "") {
				t.Errorf("%d bytes, %d of them returned, with the error %d", size, len(got), e)
			}
		}
	}
	for size := 1<<16 - 2; size <= 1<<16+2; size++ {
		if !tried[size] {
			t.Errorf("no text has %d bytes", size)
		}
	}
}

// anySelect returns a selection that is valid.
func anySelect(random *rand.Rand, depth int) api.Select {
	kind := 1 + random.Intn(10)
	switch {
	case kind == api.SelectAll || depth == 1:
		return everything()
	case kind == api.SelectNot:
		return not(anySelect(random, depth-1))
	case kind == api.SelectAnd || kind == api.SelectOr:
		s := api.Select{Kind: kind}
		for range 2 + random.Intn(2) {
			s.Kids = append(s.Kids, anySelect(random, depth-1))
		}
		return s
	}
	names := append(grammarWords(), "0", "x9", "Z_")
	return pick(kind, names[random.Intn(len(names))])
}

// anyRule returns a rule that is valid, but for the number of parts of its selections.
func anyRule(random *rand.Rand, name string, line int) api.Rule {
	u := rule(1 + random.Intn(12))
	u.Name, u.Weight, u.Line, u.First = name, random.Intn(1001), line, anySelect(random, 1+random.Intn(8))
	switch u.Kind {
	case api.RuleBefore:
		u.Second = anySelect(random, 5)
	case api.RuleMost, api.RuleGap, api.RuleSpan:
		u.N = random.Intn(25)
	case api.RuleAvoid:
		u.Times = nil
		for range 1 + random.Intn(24) {
			start := random.Intn(10)
			u.Times = append(u.Times, api.Time{Weeks: 1 + random.Intn(1023), Day: random.Intn(5), Start: start, Length: 1 + random.Intn(10-start)})
		}
	case api.RuleRooms:
		u.Rooms = nil
		for _, i := range random.Perm(40)[:1+random.Intn(16)] {
			u.Rooms = append(u.Rooms, fmt.Sprintf("R%02d", i))
		}
		if random.Intn(2) == 0 {
			slices.Sort(u.Rooms)
		}
	}
	return u
}

// Consequences: Parse of Format returns the rules.
func TestParseOfFormat(t *testing.T) {
	random := rand.New(rand.NewSource(3))
	all := 0
	for range 1000 {
		var l []api.Rule
		for i := range random.Intn(20) {
			if u := anyRule(random, fmt.Sprintf("%c%d", 'a'+random.Intn(26), i), len(l)+1); Valid(u, grid(), tenWeeks) == api.OK {
				l = append(l, u)
			}
		}
		all += len(l)
		text, e := Format(l, grid(), tenWeeks)
		if e != api.OK {
			t.Fatalf("Format(%v): %d", l, e)
		}
		checkParse(t, text, l)
		if strings.Contains(text, "  ") || strings.Contains(text, "( ") || strings.Contains(text, "[ ") || strings.Contains(text, " )") || strings.Contains(text, " ]") || strings.Contains(text, " ,") {
			t.Errorf("spaces in %q", text)
		}
	}
	if all < 5000 {
		t.Errorf("only %d rules", all)
	}
}

// R2: the arguments of Format stay as they are.
func TestFormatMemory(t *testing.T) {
	l, _ := Parse("a: 1 avoid all or not (all and class x), [Mo 1; Tu 1]\nb: 2 rooms all, [X;R1..R3]\nc: 2 before all and all, all or all", grid(), tenWeeks)
	want, _ := Parse("a: 1 avoid all or not (all and class x), [Mo 1; Tu 1]\nb: 2 rooms all, [X;R1..R3]\nc: 2 before all and all, all or all", grid(), tenWeeks)
	Format(l, grid(), tenWeeks)
	for _, u := range l {
		Valid(u, grid(), tenWeeks)
		Select(u.First)
	}
	if !slices.EqualFunc(l, want, equalRules) {
		t.Errorf("%v became %v", want, l)
	}
}
