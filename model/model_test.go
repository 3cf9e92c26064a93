package model

import (
	"fmt"
	"math"
	"slices"
	"testing"

	"timetable/api"
)

const tenWeeks = 10

// allWeeks, oddWeeks and evenWeeks are sets of weeks of the term.
const (
	allWeeks  = 1<<tenWeeks - 1
	oddWeeks  = 0b0101010101
	evenWeeks = 0b1010101010
)

// campus returns a registry with three rooms, three lecturers and four classes.
func campus() api.Registry {
	r := api.Registry{
		Grid: api.Grid{Days: 5, Slots: 10, Begin: 480, Minutes: 45},
		Term: api.Term{First: 2, Weeks: tenWeeks, Holidays: []int{4}},
		Rooms: []api.Room{
			{Code: "R1", Building: "B", Seats: 20, Features: []string{"beamer", "lab"}},
			{Code: "R2", Building: "C", Seats: 10, Features: []string{"beamer"}, Closed: []api.Time{{Weeks: oddWeeks, Start: 2, Length: 2}}},
			{Code: "R3", Building: "B", Seats: 30, Features: []string{"beamer", "lab", "sink"}},
		},
		Travel: api.Travel{Buildings: []string{"B", "C"}, Slots: [][]int{{0, 1}, {1, 0}}},
		Staff: []api.Lecturer{
			{Code: "ada"},
			{Code: "bob", Away: []api.Time{{Weeks: allWeeks, Start: 0, Length: 2}, {Weeks: evenWeeks, Day: 1, Start: 4, Length: 1}}},
			{Code: "eve", Away: []api.Time{{Weeks: 1, Start: 9, Length: 1}, {Weeks: 512, Day: 4, Start: 0, Length: 10}}},
		},
		Curricula: []api.Curriculum{{Code: "cs", Courses: []string{"MA", "PH"}}},
		Requests:  []api.Request{{Student: "s1", Course: "MA", Priority: 1}},
	}
	for i, code := range []string{"K0", "K1", "K2", "K3"} {
		c := api.Class{Code: code, Course: "MA", Part: "lec", Length: 2, Patterns: []int{allWeeks}, Seats: 15, Staff: []string{"ada"}}
		c.Starts = []api.Start{{Day: 0, Slot: 2}, {Day: 0, Slot: 3}, {Day: 1, Slot: 4}}
		if i%2 == 1 {
			c.Course, c.Seats, c.Features, c.Staff = "PH", 5, []string{"lab"}, []string{"bob", "eve"}
		}
		r.Classes = append(r.Classes, c)
	}
	return r
}

// with returns campus, changed.
func with(change func(r *api.Registry)) api.Registry {
	r := campus()
	change(&r)
	return r
}

// invalid are registries that are not valid, each in another way.
func invalid() []api.Registry {
	return []api.Registry{
		{},
		with(func(r *api.Registry) { r.Grid.Days = 8 }),
		with(func(r *api.Registry) { r.Term.First = 3 }),
		with(func(r *api.Registry) { r.Term.Weeks = 21 }),
		with(func(r *api.Registry) { r.Rooms[0].Seats = 0 }),
		with(func(r *api.Registry) { r.Rooms[0].Code = "R2" }),
		with(func(r *api.Registry) { r.Travel.Slots = nil }),
		with(func(r *api.Registry) { r.Staff[0].Code = "bob" }),
		with(func(r *api.Registry) { r.Staff = r.Staff[1:] }),
		with(func(r *api.Registry) { r.Classes[3].Length = 0 }),
		with(func(r *api.Registry) { r.Classes[3].Seats = -1 }),
		with(func(r *api.Registry) { r.Classes[3].Patterns = nil }),
		with(func(r *api.Registry) { r.Classes[3].Code = "K0" }),
		with(func(r *api.Registry) { r.Curricula[0].Courses = []string{"MA", "zz"} }),
		with(func(r *api.Registry) { r.Requests[0].Course = "zz" }),
	}
}

// tooMany changes a class so that it has more options than are permitted.
func tooMany(c *api.Class) { c.Starts = nil }

func at(weeks, day, start, length, room int) api.Placed {
	return api.Placed{Time: api.Time{Weeks: weeks, Day: day, Start: start, Length: length}, Room: room}
}

// extremes are numbers that are hardly expected.
func extremes() []int {
	return []int{math.MinInt, math.MinInt + 1, -1 << 32, -1<<32 + 1, 1 << 32, 1<<32 + 1, 1 << 62, math.MaxInt - 1, math.MaxInt}
}

func checkOptions(t *testing.T, r api.Registry, class int, want []api.Placed) {
	t.Helper()
	if p, e := Options(r, class); e != api.OK || !slices.Equal(p, want) {
		t.Errorf("Options of the class %d of %s = %v, %d; want %v", class, short(r.Classes), p, e, want)
	}
}

func checkNoOptions(t *testing.T, r api.Registry, class int, want api.Errno) {
	t.Helper()
	if p, e := Options(r, class); e != want || len(p) > 0 {
		t.Errorf("Options of the class %d of %s = %s, %d; want the error %d", class, short(r), short(p), e, want)
	}
}

// shown writes a model; lists without elements look the same, whether they are nil or not.
func shown(m api.Model) string { return fmt.Sprintf("%+v", m) }

// short writes the beginning of what may be long.
func short(x any) string {
	s := fmt.Sprintf("%+v", x)
	return s[:min(len(s), 1000)]
}

func checkBuild(t *testing.T, r api.Registry, want api.Model) {
	t.Helper()
	if m, e := Build(r); e != api.OK || shown(m) != shown(want) {
		t.Errorf("Build(%s) =\n%s, %d; want\n%s", short(r), shown(m), e, shown(want))
	}
}

func checkNoBuild(t *testing.T, r api.Registry, want api.Errno) {
	t.Helper()
	if m, e := Build(r); e != want || shown(m) != shown(api.Model{}) {
		t.Errorf("Build(%s) = %s, %d; want the error %d", short(r), short(m), e, want)
	}
}

func checkValid(t *testing.T, m api.Model, want api.Errno) {
	t.Helper()
	if e := Valid(m); e != want {
		t.Errorf("Valid(%s) = %d, want %d", short(m), e, want)
	}
}

// checkPlan checks that a plan is complete and has these places.
func checkPlan(t *testing.T, m api.Model, plan []int, places []api.Placed) {
	t.Helper()
	if e := Complete(m, plan); e != api.OK {
		t.Errorf("Complete(%s, %v) = %d", short(m), plan, e)
	}
	if p, e := Placement(m, plan); e != api.OK || !slices.Equal(p, places) {
		t.Errorf("Placement(%s, %v) = %v, %d; want %v", short(m), plan, p, e, places)
	}
}

// checkNoPlan checks that a plan is not complete.
func checkNoPlan(t *testing.T, m api.Model, plan []int, want api.Errno) {
	t.Helper()
	if e := Complete(m, plan); e != want {
		t.Errorf("Complete(%s, %v) = %d, want %d", short(m), plan, e, want)
	}
	if p, e := Placement(m, plan); e != want || len(p) > 0 {
		t.Errorf("Placement(%s, %v) = %v, %d; want the error %d", short(m), plan, p, e, want)
	}
}

// checkFound checks which plan has given places.
func checkFound(t *testing.T, m api.Model, p []api.Placed, want []int) {
	t.Helper()
	if plan, ok := Plan(m, p); !ok || !slices.Equal(plan, want) {
		t.Errorf("Plan(%s, %v) = %v, %v; want %v", short(m), p, plan, ok, want)
	}
}

// checkNotFound checks that no plan has given places.
func checkNotFound(t *testing.T, m api.Model, p []api.Placed) {
	t.Helper()
	if plan, ok := Plan(m, p); ok || len(plan) > 0 {
		t.Errorf("Plan(%s, %v) = %v, %v", short(m), p, plan, ok)
	}
}
