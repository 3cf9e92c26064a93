package rules

import (
	"math"
	"testing"

	"timetable/api"
)

// campus returns a registry with six classes, and rooms in buildings of all sorts: some ways are shorter over another building, one is longer than a day, from F no way is known, and G is not in the table.
func campus() api.Registry {
	r := api.Registry{
		Grid: api.Grid{Days: 5, Slots: 10, Begin: 480, Minutes: 45},
		Term: api.Term{First: 2, Weeks: 10},
		Rooms: []api.Room{
			{Code: "R1", Building: "B", Seats: 20, Features: []string{"lab"}},
			{Code: "R2", Building: "C", Seats: 10},
			{Code: "R3", Building: "D", Seats: 30},
			{Code: "R4", Building: "E", Seats: 30},
			{Code: "R5", Building: "F", Seats: 30},
			{Code: "R6", Building: "G", Seats: 30},
			{Code: "R7", Building: "B", Seats: 20, Features: []string{"lab"}},
		},
		Travel: api.Travel{
			Buildings: []string{"B", "C", "D", "E", "F"},
			Slots:     [][]int{{0, 1, 5, -1, -1}, {1, 0, 2, -1, -1}, {5, 2, 0, 23, -1}, {-1, -1, 23, 0, -1}, {-1, -1, -1, -1, 0}},
		},
		Staff:     []api.Lecturer{{Code: "ada"}, {Code: "bob"}},
		Curricula: []api.Curriculum{{Code: "cs", Courses: []string{"MA"}}},
		Requests:  []api.Request{{Student: "s1", Course: "MA", Priority: 1}},
	}
	for i, code := range []string{"K0", "K1", "K2", "K3", "K4", "K5"} {
		c := api.Class{Code: code, Course: "MA", Part: "lec", Length: 2, Patterns: []int{1023}, Seats: 5}
		if i%2 == 1 {
			c.Course, c.Staff, c.Features = "PH", []string{"ada"}, []string{"lab"}
		}
		r.Classes = append(r.Classes, c)
	}
	return r
}

const classCount = 6 // of campus

// pick returns a selection without kids.
func pick(kind int, name string) api.Select { return api.Select{Kind: kind, Name: name} }

func all() api.Select { return pick(api.SelectAll, "") }

func either(kids ...api.Select) api.Select { return api.Select{Kind: api.SelectOr, Kids: kids} }

func not(kid api.Select) api.Select {
	return api.Select{Kind: api.SelectNot, Kids: []api.Select{kid}}
}

// these returns a selection of the classes of campus whose bits are in a set.
func these(set int) api.Select {
	kids := []api.Select{not(all()), not(all())} // so that there are enough kids
	for i, c := range campus().Classes {
		if set>>i&1 == 1 {
			kids = append(kids, pick(api.SelectClass, c.Code))
		}
	}
	return either(kids...)
}

// kinds are those of all rules.
func kinds() []int {
	var l []int
	for kind := api.RuleApart; kind <= api.RuleTravel; kind++ {
		l = append(l, kind)
	}
	return l
}

// rule returns a valid rule of a kind for all classes.
func rule(kind int) api.Rule {
	u := api.Rule{Name: "a", Weight: 5, Kind: kind, First: all()}
	switch kind {
	case api.RuleBefore:
		u.Second = all()
	case api.RuleMost, api.RuleGap, api.RuleSpan:
		u.N = 2
	case api.RuleAvoid:
		u.Times = []api.Time{{Weeks: 1023, Start: 4, Length: 2}, {Weeks: 1, Day: 2, Start: 0, Length: 9}}
	case api.RuleRooms:
		u.Rooms = []string{"R1", "R3"}
	}
	return u
}

// numbered returns a rule of a kind with a number.
func numbered(kind, n int) api.Rule {
	u := rule(kind)
	u.N = n
	return u
}

func at(weeks, day, start, length, room int) api.Placed {
	return api.Placed{Time: api.Time{Weeks: weeks, Day: day, Start: start, Length: length}, Room: room}
}

// extremes are numbers that are hardly expected.
func extremes() []int {
	return []int{math.MinInt, math.MinInt + 1, -1 << 32, 1 << 32, 1<<32 + 1, 1 << 62, math.MaxInt - 1, math.MaxInt}
}

// unsound are places whose times are not sound.
func unsound() []api.Placed {
	l := []api.Placed{
		{},
		at(0, 0, 0, 1, 0),
		at(-1, 0, 0, 1, 0),
		at(1<<20, 0, 0, 1, 0),
		at(1<<20|1, 0, 0, 1, 0),
		at(1, -1, 0, 1, 0),
		at(1, 7, 0, 1, 0),
		at(1, 0, -1, 2, 0),
		at(1, 0, 0, 0, 0),
		at(1, 0, 3, -1, 0),
		at(1, 0, 0, 25, 0),
		at(1, 0, 23, 2, 0),
		at(1, 0, 24, 1, 0),
	}
	for _, n := range extremes() {
		l = append(l, at(n, 0, 0, 1, 0), at(1, n, 0, 1, 0), at(1, 0, n, 1, 0), at(1, 0, 0, n, 0), at(1, 0, n, n, 0), at(n, n, n, n, 0))
	}
	return l
}

func checkCheck(t *testing.T, r api.Registry, u api.Rule, want api.Errno) {
	t.Helper()
	if e := Check(r, u); e != want {
		t.Errorf("Check(%.300v) = %d, want %d", u, e, want)
	}
}

func checkViolations(t *testing.T, r api.Registry, u api.Rule, p []api.Placed, want int, e api.Errno) {
	t.Helper()
	if n, err := Violations(r, u, p); n != want || err != e {
		t.Errorf("Violations(%.300v, %v) = %d, %d; want %d, %d", u, p, n, err, want, e)
	}
}

func checkTogether(t *testing.T, r api.Registry, u api.Rule, i, k int, a, b api.Placed, want int, e api.Errno) {
	t.Helper()
	if n, err := Together(r, u, i, k, a, b); n != want || err != e {
		t.Errorf("Together(%.300v, %d, %d, %v, %v) = %d, %d; want %d, %d", u, i, k, a, b, n, err, want, e)
	}
}

func checkAlone(t *testing.T, r api.Registry, u api.Rule, i int, a api.Placed, want int, e api.Errno) {
	t.Helper()
	if n, err := Alone(r, u, i, a); n != want || err != e {
		t.Errorf("Alone(%.300v, %d, %v) = %d, %d; want %d, %d", u, i, a, n, err, want, e)
	}
}

// checkError checks that all functions have an error of a rule, with valid other arguments.
func checkError(t *testing.T, r api.Registry, u api.Rule, want api.Errno) {
	t.Helper()
	checkCheck(t, r, u, want)
	checkViolations(t, r, u, make([]api.Placed, len(r.Classes)), 0, want)
	checkTogether(t, r, u, 0, 1, api.Placed{}, api.Placed{}, 0, want)
	checkAlone(t, r, u, 0, api.Placed{}, 0, want)
}
