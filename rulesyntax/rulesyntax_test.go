package rulesyntax

import (
	"math"
	"slices"
	"strings"
	"testing"

	"timetable/api"
)

const tenWeeks = 10

func grid() api.Grid { return api.Grid{Days: 5, Slots: 10, Begin: 480, Minutes: 45} }

// wrongGrids are not valid, each for one reason.
func wrongGrids() []api.Grid {
	return []api.Grid{
		{},
		{Days: 8, Slots: 10, Begin: 480, Minutes: 45},
		{Days: 5, Slots: 25, Begin: 480, Minutes: 5},
		{Days: 5, Slots: 10, Begin: -1, Minutes: 45},
		{Days: 5, Slots: 10, Begin: 480, Minutes: 4},
		{Days: 5, Slots: 10, Begin: 991, Minutes: 45},
		{Days: math.MaxInt, Slots: math.MaxInt, Begin: math.MaxInt, Minutes: math.MaxInt},
	}
}

// wrongWeeks are what no term has as its number of weeks.
func wrongWeeks() []int {
	return []int{math.MinInt, -20, -1, 0, 21, 22, 63, 64, 65, 1 << 32, 1<<32 + 1, math.MaxInt}
}

// wrongCodes are no codes.
func wrongCodes() []string {
	return []string{"", "?", "_", "-", "_a", "-a", "a b", " a", "a ", "a;b", "a,b", "a.b", "a:", "[a]", "a\n", "a\x00", "\u00e9", "a\xff", strings.Repeat("a", 17), strings.Repeat("a", 1000)}
}

// pick returns a selection without kids.
func pick(kind int, name string) api.Select { return api.Select{Kind: kind, Name: name} }

func everything() api.Select { return pick(api.SelectAll, "") }

func both(kids ...api.Select) api.Select { return api.Select{Kind: api.SelectAnd, Kids: kids} }

func either(kids ...api.Select) api.Select { return api.Select{Kind: api.SelectOr, Kids: kids} }

func not(kid api.Select) api.Select {
	return api.Select{Kind: api.SelectNot, Kids: []api.Select{kid}}
}

// notTimes returns a selection that is negated so often.
func notTimes(n int, s api.Select) api.Select {
	for range n {
		s = not(s)
	}
	return s
}

// rule returns a valid rule of a kind.
func rule(kind int) api.Rule {
	u := api.Rule{Name: "a", Weight: 5, Kind: kind, First: everything()}
	switch kind {
	case api.RuleBefore:
		u.Second = pick(api.SelectStaff, "ada")
	case api.RuleMost, api.RuleGap, api.RuleSpan:
		u.N = 2
	case api.RuleAvoid:
		u.Times = []api.Time{{Weeks: 1023, Start: 4, Length: 2}}
	case api.RuleRooms:
		u.Rooms = []string{"R1", "X"}
	}
	return u
}

// kinds are those of all rules.
func kinds() []int {
	var l []int
	for kind := api.RuleApart; kind <= api.RuleTravel; kind++ {
		l = append(l, kind)
	}
	return l
}

func equalSelects(a, b api.Select) bool {
	return a.Kind == b.Kind && a.Name == b.Name && slices.EqualFunc(a.Kids, b.Kids, equalSelects)
}

func equalRules(a, b api.Rule) bool {
	return a.Name == b.Name && a.Weight == b.Weight && a.Kind == b.Kind && equalSelects(a.First, b.First) && equalSelects(a.Second, b.Second) &&
		a.N == b.N && slices.Equal(a.Times, b.Times) && slices.Equal(a.Rooms, b.Rooms) && a.Line == b.Line
}

// problem is one with a line and a column.
func problem(line, column int, e api.Errno) api.Problem {
	return api.Problem{Line: line, Column: column, Code: e}
}

func checkParse(t *testing.T, text string, rules []api.Rule, problems ...api.Problem) {
	t.Helper()
	l, p := Parse(text, grid(), tenWeeks)
	if !slices.EqualFunc(l, rules, equalRules) {
		t.Errorf("Parse(%.200q) = %+v, want %+v", text, l, rules)
	}
	if !slices.Equal(p, problems) {
		t.Errorf("Parse(%.200q) has the problems %v, want %v", text, p, problems)
	}
}

// checkSelection checks what selection a text is, alone in a rule.
func checkSelection(t *testing.T, text string, want api.Select) {
	t.Helper()
	checkParse(t, "a: hard apart "+text, []api.Rule{{Name: "a", Kind: api.RuleApart, First: want, Line: 1}})
}

// checkFault checks that a line alone, and between two others, has one problem, and the others none.
func checkFault(t *testing.T, line string, column int, e api.Errno) {
	t.Helper()
	checkParse(t, line, nil, problem(1, column, e))
	first, last := rule(api.RuleApart), rule(api.RuleApart)
	first.Name, first.Line, last.Name, last.Line = "first", 1, "last", 3
	checkParse(t, "first: 5 apart all\n"+line+"\nlast: 5 apart all", []api.Rule{first, last}, problem(2, column, e))
}

func checkFormat(t *testing.T, l []api.Rule, want string, e api.Errno) {
	t.Helper()
	if s, err := Format(l, grid(), tenWeeks); s != want || err != e {
		t.Errorf("Format(%+v) = %.200q, %d; want %.200q, %d", l, s, err, want, e)
	}
}
