package rules

import (
	"fmt"
	"math"
	"slices"
	"strings"
	"testing"

	"timetable/api"
)

// P16.1: what each kind of rule may be.
func TestCheck(t *testing.T) {
	for _, kind := range kinds() {
		u := rule(kind)
		checkCheck(t, campus(), u, api.OK)
		u.Name, u.Weight, u.Line = strings.Repeat("a", 16), 1000, math.MaxInt
		checkCheck(t, campus(), u, api.OK)
		u.Weight = 0
		checkCheck(t, campus(), u, api.OK)
	}
}

// P16.1: a registry with hardly anything.
func TestCheckEmpty(t *testing.T) {
	r := api.Registry{Grid: campus().Grid, Term: campus().Term}
	for _, kind := range kinds() {
		want := api.OK
		if kind == api.RuleRooms {
			want = api.ErrUnknown
		}
		checkCheck(t, r, rule(kind), want)
		checkViolations(t, r, rule(kind), nil, 0, want)
		checkViolations(t, r, rule(kind), []api.Placed{}, 0, want)
		if want == api.OK {
			checkViolations(t, r, rule(kind), []api.Placed{{}}, 0, api.ErrPlan)
			checkTogether(t, r, rule(kind), 0, 1, api.Placed{}, api.Placed{}, 0, api.ErrRange)
			checkAlone(t, r, rule(kind), 0, api.Placed{}, 0, api.ErrRange)
		}
	}
}

// P16.1: registries that are not valid, each in another way, which comes before all errors of rules.
func TestCheckRegistry(t *testing.T) {
	for _, harm := range []func(r *api.Registry){
		func(r *api.Registry) { *r = api.Registry{} },
		func(r *api.Registry) { r.Grid.Days = 8 },
		func(r *api.Registry) { r.Term.First = 3 },
		func(r *api.Registry) { r.Term.Weeks = 21 },
		func(r *api.Registry) { r.Rooms[0].Seats = 0 },
		func(r *api.Registry) { r.Rooms[0].Code = "R2" },
		func(r *api.Registry) { r.Travel.Slots = nil },
		func(r *api.Registry) { r.Travel.Slots[0][1] = 2 },
		func(r *api.Registry) { r.Staff[0].Code = "bob" },
		func(r *api.Registry) { r.Staff = r.Staff[1:] },
		func(r *api.Registry) { r.Classes[5].Length = 0 },
		func(r *api.Registry) { r.Classes[5].Code = "K0" },
		func(r *api.Registry) { r.Curricula[0].Courses = nil },
		func(r *api.Registry) { r.Curricula[0].Courses = []string{"MA", "zz"} },
		func(r *api.Registry) { r.Requests[0].Priority = 0 },
		func(r *api.Registry) { r.Requests[0].Course = "zz" },
	} {
		r := campus()
		harm(&r)
		for _, kind := range kinds() {
			checkError(t, r, rule(kind), api.ErrInvalid)
		}
		unknown := rule(api.RuleRooms)
		unknown.First, unknown.Rooms = pick(api.SelectClass, "zz"), []string{"zz"}
		for _, u := range []api.Rule{{}, {Name: "a", Weight: -1}, {Name: "a", Kind: api.RuleApart}, unknown} {
			checkError(t, r, u, api.ErrInvalid)
			checkViolations(t, r, u, nil, 0, api.ErrInvalid)
			checkTogether(t, r, u, -1, -1, api.Placed{}, api.Placed{}, 0, api.ErrInvalid)
			checkAlone(t, r, u, -1, api.Placed{}, 0, api.ErrInvalid)
		}
	}
}

// P16.1: times of rules must fit the grid and the weeks of the term.
func TestCheckTimes(t *testing.T) {
	for days := 1; days <= 7; days++ {
		for weeks := 1; weeks <= 20; weeks++ {
			r := campus()
			r.Grid.Days, r.Term.Weeks, r.Classes, r.Requests, r.Curricula = days, weeks, nil, nil, nil
			u := rule(api.RuleAvoid)
			u.Times = []api.Time{{Weeks: 1<<weeks - 1, Day: days - 1, Start: 8, Length: 2}}
			checkCheck(t, r, u, api.OK)
			u.Times[0].Weeks = 1 << weeks
			checkCheck(t, r, u, api.ErrTime)
			u.Times[0] = api.Time{Weeks: 1, Day: days, Start: 8, Length: 2}
			checkCheck(t, r, u, api.ErrTime)
			u.Times[0] = api.Time{Weeks: 1, Day: 0, Start: 8, Length: 3}
			checkCheck(t, r, u, api.ErrTime)
		}
	}
}

// P16.1: names that selections and lists of rooms have.
func TestCheckUnknown(t *testing.T) {
	known := map[int]string{api.SelectClass: "K3", api.SelectCourse: "PH", api.SelectPart: "lec", api.SelectCurriculum: "cs", api.SelectStaff: "bob", api.SelectFeature: "lab"}
	for _, kind := range kinds() {
		for selectKind, name := range known {
			u := rule(kind)
			u.First = pick(selectKind, name)
			checkError(t, campus(), u, api.OK)
			u.First.Name += "x"
			checkError(t, campus(), u, api.ErrUnknown)
			u.First = either(all(), not(u.First))
			checkError(t, campus(), u, api.ErrUnknown)
		}
	}
	for selectKind, name := range known {
		u := rule(api.RuleBefore)
		u.Second = pick(selectKind, name)
		checkError(t, campus(), u, api.OK)
		u.Second.Name += "x"
		checkError(t, campus(), u, api.ErrUnknown)
	}
	u := rule(api.RuleRooms)
	for _, code := range []string{"R", "R8", "R11", "r1", "R01", "B", "K1", "ada", "lab", "MA"} {
		for i := range 4 {
			u.Rooms = slices.Insert([]string{"R1", "R7", "R4"}, i, code)
			checkError(t, campus(), u, api.ErrUnknown)
		}
	}
	u.Rooms = []string{"R7", "R6", "R5", "R4", "R3", "R2", "R1"}
	checkError(t, campus(), u, api.OK)
}

// A fault of a rule or of its registry, with its error.
type fault struct {
	harm func(r *api.Registry, u *api.Rule)
	e    api.Errno
}

// faultsOf returns faults of a rule of a kind in the order in which they are looked for.
func faultsOf(kind int) []fault {
	l := []fault{
		{func(r *api.Registry, u *api.Rule) { r.Requests[0].Priority = 0 }, api.ErrInvalid},
		{func(r *api.Registry, u *api.Rule) { u.Name = "?" }, api.ErrCode},
		{func(r *api.Registry, u *api.Rule) { u.Weight = 1001 }, api.ErrRange},
		{func(r *api.Registry, u *api.Rule) { u.Kind = 13 }, api.ErrInvalid},
		{func(r *api.Registry, u *api.Rule) { u.First.Kids[1].Kids = []api.Select{all()} }, api.ErrForm},
		{func(r *api.Registry, u *api.Rule) { u.Second.Kids = []api.Select{all()} }, api.ErrForm},
		{func(r *api.Registry, u *api.Rule) { u.N = 25 }, api.ErrRange},
	}
	switch kind {
	case api.RuleAvoid:
		l = append(l, fault{func(r *api.Registry, u *api.Rule) { u.Times[0].Day = 5 }, api.ErrTime})
	case api.RuleRooms:
		l = append(l, fault{func(r *api.Registry, u *api.Rule) { u.Rooms[1] = u.Rooms[0] }, api.ErrDuplicate})
	}
	l = append(l, fault{func(r *api.Registry, u *api.Rule) { u.Line = -1 }, api.ErrRange})
	l = append(l, fault{func(r *api.Registry, u *api.Rule) { u.First.Kids[0].Name = "zz" }, api.ErrUnknown})
	switch kind {
	case api.RuleBefore:
		l = append(l, fault{func(r *api.Registry, u *api.Rule) { u.Second.Name = "zz" }, api.ErrUnknown})
	case api.RuleRooms:
		l = append(l, fault{func(r *api.Registry, u *api.Rule) { u.Rooms[2] = "zz" }, api.ErrUnknown})
	}
	return l
}

// P16.1, P16.2, P16.3: all sets of faults; the first one decides, and those of other arguments come last.
func TestOrder(t *testing.T) {
	for _, kind := range kinds() {
		faults := faultsOf(kind)
		for set := range 1 << len(faults) {
			r, u, want := campus(), rule(kind), api.OK
			u.First = either(pick(api.SelectClass, "K1"), pick(api.SelectClass, "K2"))
			switch kind {
			case api.RuleBefore:
				u.Second = pick(api.SelectClass, "K3")
			case api.RuleRooms:
				u.Rooms = []string{"R1", "R2", "R3"}
			}
			for i, x := range slices.Backward(faults) {
				if set>>i&1 == 1 {
					x.harm(&r, &u)
					want = x.e
				}
			}
			checkCheck(t, r, u, want)
			if want != api.OK {
				checkError(t, r, u, want)
				checkViolations(t, r, u, nil, 0, want)
				checkTogether(t, r, u, 0, 0, api.Placed{}, api.Placed{}, 0, want)
				checkAlone(t, r, u, classCount, api.Placed{}, 0, want)
			}
		}
	}
}

// P16.2: placements of another length.
func TestViolationsPlan(t *testing.T) {
	for _, kind := range kinds() {
		for n := range 30 {
			want := api.ErrPlan
			if n == classCount {
				want = api.OK
			}
			checkViolations(t, campus(), rule(kind), make([]api.Placed, n), 0, want)
			if n != classCount {
				checkViolations(t, campus(), rule(kind), slices.Repeat([]api.Placed{at(1, 0, 4, 1, 1)}, n), 0, want)
			}
		}
	}
}

// P16.3: indices that are those of no classes.
func TestRange(t *testing.T) {
	a := at(1, 0, 4, 1, 1)
	for _, kind := range kinds() {
		u := rule(kind)
		u.First = either(pick(api.SelectClass, "K1"), pick(api.SelectClass, "K2"))
		for i := -2; i < classCount+2; i++ {
			isIn := 0 <= i && i < classCount
			if _, e := Alone(campus(), u, i, a); (e == api.OK) != isIn {
				t.Errorf("Alone of the class %d: %d", i, e)
			}
			for k := -2; k < classCount+2; k++ {
				if _, e := Together(campus(), u, i, k, a, a); (e == api.OK) != (isIn && 0 <= k && k < classCount && i != k) {
					t.Errorf("Together of the classes %d and %d: %d", i, k, e)
				}
			}
			for _, n := range append(extremes(), -1, classCount) {
				checkTogether(t, campus(), u, i, n, a, a, 0, api.ErrRange)
				checkTogether(t, campus(), u, n, i, a, a, 0, api.ErrRange)
				checkTogether(t, campus(), u, n, n, a, a, 0, api.ErrRange)
				checkAlone(t, campus(), u, n, a, 0, api.ErrRange)
			}
		}
	}
}

// R1: selections that contain themselves.
func TestEndless(t *testing.T) {
	kids := make([]api.Select, 2)
	kids[0], kids[1] = api.Select{Kind: api.SelectAnd, Kids: kids}, either(kids...)
	for _, kind := range kinds() {
		u := rule(kind)
		u.First = kids[0]
		if e := Check(campus(), u); e != api.ErrForm {
			t.Errorf("Check with an endless first selection: %d", e)
		}
		u = rule(kind)
		u.Second = kids[1]
		if e := Check(campus(), u); e != api.ErrForm {
			t.Errorf("Check with an endless second selection: %d", e)
		}
	}
}

// R2: arguments are not changed.
func TestKept(t *testing.T) {
	for _, kind := range kinds() {
		r, u := campus(), rule(kind)
		p := slices.Repeat([]api.Placed{at(1, 0, 4, 1, 1)}, classCount)
		before := fmt.Sprint(r, u, p)
		Check(r, u)
		Violations(r, u, p)
		Together(r, u, 0, 1, p[0], p[1])
		Alone(r, u, 0, p[0])
		if fmt.Sprint(r, u, p) != before {
			t.Errorf("a rule of kind %d changes its arguments", kind)
		}
	}
}
