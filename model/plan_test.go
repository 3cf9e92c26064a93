package model

import (
	"fmt"
	"slices"
	"testing"

	"timetable/api"
)

// P17.4: all plans of the small model, and all lists of numbers around them.
func TestComplete(t *testing.T) {
	m := small()
	for a := -2; a < 4; a++ {
		for b := -2; b < 5; b++ {
			for c := -2; c < 3; c++ {
				plan := []int{a, b, c}
				if a < 0 || a > 1 || b < 0 || b > 2 || c != 0 {
					checkNoPlan(t, m, plan, api.ErrPlan)
					continue
				}
				places := []api.Placed{m.Classes[0][a].Place, m.Classes[1][b].Place, m.Classes[2][c].Place}
				checkPlan(t, m, plan, places)
				checkFound(t, m, places, plan)
			}
		}
	}
}

// P17.4: plans of another length, and numbers that are hardly expected.
func TestCompleteLength(t *testing.T) {
	m := small()
	for n := range 30 {
		if n != 3 {
			checkNoPlan(t, m, make([]int, n), api.ErrPlan)
			checkNotFound(t, m, slices.Repeat([]api.Placed{m.Classes[0][0].Place}, n))
		}
		if n > 0 {
			checkNoPlan(t, api.Model{}, make([]int, n), api.ErrPlan)
			checkNotFound(t, api.Model{}, make([]api.Placed, n))
		}
	}
	checkNotFound(t, m, []api.Placed{m.Classes[0][0].Place, m.Classes[1][0].Place})
	checkNotFound(t, m, []api.Placed{m.Classes[0][0].Place, m.Classes[1][0].Place, m.Classes[2][0].Place, m.Classes[2][0].Place})
	for _, n := range extremes() {
		for i := range 3 {
			plan := []int{0, 0, 0}
			plan[i] = n
			checkNoPlan(t, m, plan, api.ErrPlan)
		}
	}
}

// P17.4: models without classes, and classes without options.
func TestCompleteEmpty(t *testing.T) {
	for _, m := range []api.Model{{}, {Rules: 56}, {Classes: [][]api.Option{}}} {
		checkPlan(t, m, nil, nil)
		checkPlan(t, m, []int{}, nil)
		checkFound(t, m, nil, nil)
		checkFound(t, m, []api.Placed{}, nil)
	}
	for n := range 4 {
		m := empty(3, 1)
		plan, places := make([]int, 3), make([]api.Placed, 3)
		checkPlan(t, m, plan, places)
		checkFound(t, m, places, plan)
		if n < 3 {
			m.Classes[n] = nil
			checkNoPlan(t, m, plan, api.ErrPlan)
			checkNotFound(t, m, places)
			plan[n] = -1
			checkNoPlan(t, m, plan, api.ErrPlan)
		}
	}
}

// P17.4: models that are not valid.
func TestCompleteErrors(t *testing.T) {
	plan, places := []int{0, 0, 0}, []api.Placed{at(1, 0, 0, 1, 0), at(1, 0, 0, 1, -1), at(1, 1, 0, 1, 2)}
	checkPlan(t, small(), plan, places)
	checkFound(t, small(), places, plan)
	for _, x := range []struct {
		harm func(m *api.Model)
		want api.Errno
	}{
		{func(m *api.Model) { m.Rules = 57 }, api.ErrSize},
		{func(m *api.Model) { m.Rules = -1 }, api.ErrSize},
		{func(m *api.Model) { m.Classes[0] = slices.Repeat(m.Classes[0], 13) }, api.ErrSize},
		{func(m *api.Model) { m.Pairs = make([]api.Pair, 4001) }, api.ErrSize},
		{func(m *api.Model) { m.Counts = make([]api.Count, 801) }, api.ErrSize},
		{func(m *api.Model) { m.Rules = 3 }, api.ErrInvalid},
		{func(m *api.Model) { m.Classes[0][0].Charges[0].Cost = 0 }, api.ErrInvalid},
		{func(m *api.Model) { m.Pairs[2].Table[1] = -1 }, api.ErrInvalid},
		{func(m *api.Model) { m.Counts[1].Penalty = 0 }, api.ErrInvalid},
	} {
		m := small()
		x.harm(&m)
		for _, l := range [][]int{plan, {0, 0, -1}, {0, 9, 0}, {0, 0}, nil} {
			checkNoPlan(t, m, l, x.want)
		}
		checkNotFound(t, m, places)
		checkNotFound(t, m, nil)
	}
	m := empty(25, 1)
	checkNoPlan(t, m, make([]int, 25), api.ErrSize)
	checkNotFound(t, m, make([]api.Placed, 25))
}

// P17.4: places that differ from those of the options in one number.
func TestPlanPlaces(t *testing.T) {
	m := small()
	right := []api.Placed{at(1, 0, 1, 1, 0), at(1, 1, 0, 1, -1), at(1, 1, 0, 1, 2)}
	checkFound(t, m, right, []int{1, 2, 0})
	for class := range right {
		for _, n := range append(extremes(), -2, 5, 7) {
			for field := range 5 {
				p := slices.Clone(right)
				x := &p[class]
				*[]*int{&x.Time.Weeks, &x.Time.Day, &x.Time.Start, &x.Time.Length, &x.Room}[field] = n
				checkNotFound(t, m, p)
				m := small()
				m.Pairs = nil
				m.Classes[class] = append(m.Classes[class], api.Option{Place: *x})
				want := []int{1, 2, 0}
				want[class] = len(m.Classes[class]) - 1
				checkFound(t, m, p, want)
			}
		}
	}
	checkNotFound(t, m, []api.Placed{right[1], right[0], right[2]})
	checkNotFound(t, m, []api.Placed{right[0], right[2], right[1]})
	checkNotFound(t, m, make([]api.Placed, 3))
}

// P17.4: of options with the same place the first one is chosen, whatever they cost.
func TestPlanFirst(t *testing.T) {
	a, b := at(1, 0, 0, 1, 0), at(1, 0, 1, 1, 0)
	m := api.Model{Rules: 1}
	for set := range 1 << 4 { // which of four options are at a
		var options []api.Option
		for i := range 4 {
			if set>>i&1 == 1 {
				options = append(options, api.Option{Place: a, Charges: []api.Charge{{Cost: 9 - i}}})
			} else {
				options = append(options, api.Option{Place: b})
			}
		}
		m.Classes = [][]api.Option{options}
		for _, place := range []api.Placed{a, b} {
			first := 0
			for first < 4 && options[first].Place != place {
				first++
			}
			if first == 4 {
				checkNotFound(t, m, []api.Placed{place})
				continue
			}
			checkFound(t, m, []api.Placed{place}, []int{first})
		}
		for i, o := range options {
			checkPlan(t, m, []int{i}, []api.Placed{o.Place})
		}
	}
}

// R2: arguments are not changed, and results are new.
func TestPlanKept(t *testing.T) {
	m, plan := small(), []int{1, 2, 0}
	before := fmt.Sprint(m, plan)
	Valid(m)
	Complete(m, plan)
	p, _ := Placement(m, plan)
	found, _ := Plan(m, p)
	found[0], p[1] = 7, api.Placed{}
	if fmt.Sprint(m, plan) != before {
		t.Errorf("the model and the plan are now %v, %v", m, plan)
	}
}
