package model

import (
	"fmt"
	"slices"
	"testing"

	"timetable/api"
)

// small returns a model of three classes, with two, three and one option, that has a bit of everything.
func small() api.Model {
	return api.Model{
		Classes: [][]api.Option{
			{{Place: at(1, 0, 0, 1, 0), Charges: []api.Charge{{Rule: 0, Cost: 1}, {Rule: 3, Cost: api.Forbidden}}}, {Place: at(1, 0, 1, 1, 0)}},
			{{Place: at(1, 0, 0, 1, -1)}, {Place: at(1, 0, 2, 1, -1), Charges: []api.Charge{{Rule: 2, Cost: api.MaxCost}}}, {Place: at(1, 1, 0, 1, -1)}},
			{{Place: at(1, 1, 0, 1, 2)}},
		},
		Pairs: []api.Pair{
			{First: 0, Second: 1, Rule: 0, Table: []int{0, 1, 2, 3, 4, 5}},
			{First: 0, Second: 2, Rule: 0, Table: []int{0, api.Forbidden}},
			{First: 1, Second: 2, Rule: 0, Table: []int{0, 0, 0}},
			{First: 0, Second: 1, Rule: 3, Table: []int{api.MaxCost, 0, 0, 0, 0, 7}},
		},
		Counts: []api.Count{
			{Rule: 3, Loads: []api.Load{{Class: 0, Option: 1, Weight: 1}, {Class: 1, Option: 0, Weight: 2}, {Class: 1, Option: 2, Weight: api.MaxWeight}, {Class: 2, Option: 0, Weight: 1}}, Most: 2, Penalty: 3},
			{Rule: 1, Penalty: api.Forbidden},
			{Rule: 1, Loads: []api.Load{{Class: 1, Option: 1, Weight: 5}}, Most: api.MaxCost, Penalty: api.MaxCost},
		},
		Rules: 4,
	}
}

// empty returns a model of so many classes with so many options each.
func empty(classes, options int) api.Model {
	var m api.Model
	for range classes {
		m.Classes = append(m.Classes, make([]api.Option, options))
	}
	return m
}

// P17.1: a model with a bit of everything, and models with hardly anything.
func TestValid(t *testing.T) {
	checkValid(t, small(), api.OK)
	checkValid(t, api.Model{}, api.OK)
	for classes := range 25 {
		for _, options := range []int{0, 1, 2, 23, 24} {
			m := empty(classes, options)
			checkValid(t, m, api.OK)
			m.Rules = 1
			checkValid(t, m, api.OK)
		}
	}
	m := empty(2, 0)
	m.Rules, m.Pairs, m.Counts = 1, []api.Pair{{Second: 1}}, []api.Count{{Penalty: 1}}
	checkValid(t, m, api.OK)
	m.Classes[1] = make([]api.Option, 24)
	checkValid(t, m, api.OK)
	m.Pairs[0].Table = []int{0}
	checkValid(t, m, api.ErrInvalid)
}

// P17.1: places do not matter.
func TestValidPlaces(t *testing.T) {
	for _, n := range append(extremes(), -2, -1, 0, 1, 24) {
		m := small()
		for _, options := range m.Classes {
			for i := range options {
				options[i].Place = at(n, n, n, n, n)
			}
		}
		checkValid(t, m, api.OK)
	}
}

// full returns a model with as much of everything as is permitted.
func full() api.Model {
	m := empty(api.MaxClasses, api.MaxOptions)
	m.Rules = maxRules
	for _, options := range m.Classes {
		for i := range options {
			for rule := range maxRules {
				options[i].Charges = append(options[i].Charges, api.Charge{Rule: rule, Cost: api.Forbidden})
			}
		}
	}
	table := slices.Repeat([]int{api.Forbidden}, api.MaxOptions*api.MaxOptions)
	for rule := range maxRules {
		for first := range api.MaxClasses {
			for second := first + 1; second < api.MaxClasses; second++ {
				m.Pairs = append(m.Pairs, api.Pair{First: first, Second: second, Rule: rule, Table: table})
			}
		}
	}
	m.Pairs = m.Pairs[len(m.Pairs)-api.MaxPairs:]
	c := api.Count{Rule: maxRules - 1, Most: api.MaxCost, Penalty: api.Forbidden}
	for class := range api.MaxClasses {
		for option := range api.MaxOptions {
			c.Loads = append(c.Loads, api.Load{Class: class, Option: option, Weight: api.MaxWeight})
		}
	}
	m.Counts = slices.Repeat([]api.Count{c}, api.MaxCounts)
	return m
}

// P17.1: as much of everything as is permitted, and more of each of it.
func TestValidSize(t *testing.T) {
	checkValid(t, full(), api.OK)
	for _, grow := range []func(m *api.Model){
		func(m *api.Model) { m.Classes = append(m.Classes, nil) },
		func(m *api.Model) { m.Classes = make([][]api.Option, 1000) },
		func(m *api.Model) { m.Classes[0] = append(m.Classes[0], api.Option{}) },
		func(m *api.Model) { m.Classes[11] = append(m.Classes[11], api.Option{}) },
		func(m *api.Model) { m.Classes[23] = append(m.Classes[23], api.Option{}) },
		func(m *api.Model) { m.Pairs = append(m.Pairs, api.Pair{}) },
		func(m *api.Model) { m.Pairs = append([]api.Pair{{Table: []int{0}}}, m.Pairs...) },
		func(m *api.Model) { m.Counts = append(m.Counts, m.Counts[0]) },
		func(m *api.Model) { m.Counts = append(m.Counts, api.Count{}) },
		func(m *api.Model) { m.Rules++ },
		func(m *api.Model) { m.Rules = -1 },
	} {
		m := full()
		grow(&m)
		checkValid(t, m, api.ErrSize)
		m.Classes = slices.Insert(m.Classes, 0, []api.Option{{Charges: []api.Charge{{Rule: -1}}}}) // which would not be valid in another way
		checkValid(t, m, api.ErrSize)
	}
	for _, rules := range append(extremes(), -57, -2, -1, 57, 58, 100) {
		checkValid(t, api.Model{Rules: rules}, api.ErrSize)
		m := small()
		m.Rules = rules
		checkValid(t, m, api.ErrSize)
	}
	for rules := range 57 {
		checkValid(t, api.Model{Rules: rules}, api.OK)
		m, want := small(), api.OK
		if m.Rules = rules; rules < 4 {
			want = api.ErrInvalid
		}
		checkValid(t, m, want)
	}
}

// checkNumber checks which numbers a field of the small model can have.
func checkNumber(t *testing.T, name string, field func(m *api.Model) *int, isRight func(n int) bool) {
	t.Helper()
	numbers := append(extremes(), api.MaxWeight, api.MaxWeight+1, api.MaxCost-1, api.MaxCost, api.MaxCost+1, api.Forbidden-1, api.Forbidden, api.Forbidden+1)
	for n := -100; n < 100; n++ {
		numbers = append(numbers, n)
	}
	for _, n := range numbers {
		m, want := small(), api.ErrInvalid
		if *field(&m) = n; isRight(n) {
			want = api.OK
		}
		if e := Valid(m); e != want {
			t.Errorf("a model with the %s %d: %d, want %d", name, n, e, want)
		}
	}
}

// oneOf returns a function that reports whether a number is one of these.
func oneOf(l ...int) func(n int) bool {
	return func(n int) bool { return slices.Contains(l, n) }
}

// from returns a function that reports whether a number is in a span.
func from(least, most int) func(n int) bool {
	return func(n int) bool { return least <= n && n <= most }
}

func isAnyCost(n int) bool { return 1 <= n && n <= 1<<20 || n == 1<<40 }

func isAnyEntry(n int) bool { return n == 0 || isAnyCost(n) }

// P17.1: each number of charges, with all values around its borders.
func TestValidCharges(t *testing.T) {
	charge := func(i int) func(m *api.Model) *api.Charge {
		return func(m *api.Model) *api.Charge { return &m.Classes[0][0].Charges[i] }
	}
	first, second := charge(0), charge(1)
	other := func(m *api.Model) *api.Charge { return &m.Classes[1][1].Charges[0] }
	checkNumber(t, "rule of a first charge", func(m *api.Model) *int { return &first(m).Rule }, from(0, 2))
	checkNumber(t, "rule of a second charge", func(m *api.Model) *int { return &second(m).Rule }, from(1, 3))
	checkNumber(t, "rule of the only charge", func(m *api.Model) *int { return &other(m).Rule }, from(0, 3))
	checkNumber(t, "cost of a first charge", func(m *api.Model) *int { return &first(m).Cost }, isAnyCost)
	checkNumber(t, "cost of a second charge", func(m *api.Model) *int { return &second(m).Cost }, isAnyCost)
	checkNumber(t, "cost of the only charge", func(m *api.Model) *int { return &other(m).Cost }, isAnyCost)
}

// P17.1: each number of pairs, with all values around its borders.
func TestValidPairs(t *testing.T) {
	rule := func(i int) func(m *api.Model) *int { return func(m *api.Model) *int { return &m.Pairs[i].Rule } }
	first := func(i int) func(m *api.Model) *int { return func(m *api.Model) *int { return &m.Pairs[i].First } }
	second := func(i int) func(m *api.Model) *int { return func(m *api.Model) *int { return &m.Pairs[i].Second } }
	checkNumber(t, "rule of the first pair", rule(0), oneOf(0))
	checkNumber(t, "rule of the second pair", rule(1), oneOf(0))
	checkNumber(t, "rule of the third pair", rule(2), from(0, 2))
	checkNumber(t, "rule of the last pair", rule(3), from(1, 3))
	for i, classes := range [][]int{{0, 1}, {0, 2}, {1, 2}, {0, 1}} {
		checkNumber(t, fmt.Sprintf("first class of pair %d", i), first(i), oneOf(classes[0]))
		checkNumber(t, fmt.Sprintf("second class of pair %d", i), second(i), oneOf(classes[1]))
		for k := range small().Pairs[i].Table {
			entry := func(m *api.Model) *int { return &m.Pairs[i].Table[k] }
			checkNumber(t, fmt.Sprintf("entry %d of pair %d", k, i), entry, isAnyEntry)
		}
	}
}

// P17.1: each number of counts, with all values around its borders.
func TestValidCounts(t *testing.T) {
	for i := range 3 {
		checkNumber(t, "rule of a count", func(m *api.Model) *int { return &m.Counts[i].Rule }, from(0, 3))
		checkNumber(t, "most of a count", func(m *api.Model) *int { return &m.Counts[i].Most }, from(0, 1<<20))
		checkNumber(t, "penalty of a count", func(m *api.Model) *int { return &m.Counts[i].Penalty }, isAnyCost)
	}
	load := func(i int) func(m *api.Model) *api.Load {
		return func(m *api.Model) *api.Load { return &m.Counts[0].Loads[i] }
	}
	for i := range 4 {
		checkNumber(t, "weight of a load", func(m *api.Model) *int { return &load(i)(m).Weight }, from(1, 1000))
	}
	checkNumber(t, "class of load 0", func(m *api.Model) *int { return &load(0)(m).Class }, oneOf(0))
	checkNumber(t, "class of load 1", func(m *api.Model) *int { return &load(1)(m).Class }, oneOf(1))
	checkNumber(t, "class of load 2", func(m *api.Model) *int { return &load(2)(m).Class }, oneOf(1))
	checkNumber(t, "class of load 3", func(m *api.Model) *int { return &load(3)(m).Class }, oneOf(2))
	checkNumber(t, "option of load 0", func(m *api.Model) *int { return &load(0)(m).Option }, oneOf(0, 1))
	checkNumber(t, "option of load 1", func(m *api.Model) *int { return &load(1)(m).Option }, oneOf(0, 1))
	checkNumber(t, "option of load 2", func(m *api.Model) *int { return &load(2)(m).Option }, oneOf(1, 2))
	checkNumber(t, "option of load 3", func(m *api.Model) *int { return &load(3)(m).Option }, oneOf(0))
	only := func(m *api.Model) *api.Load { return &m.Counts[2].Loads[0] }
	checkNumber(t, "class of the only load", func(m *api.Model) *int { return &only(m).Class }, oneOf(0, 1))
	checkNumber(t, "option of the only load", func(m *api.Model) *int { return &only(m).Option }, from(0, 2))
}

// P17.1: tables that are too short or too long.
func TestValidTables(t *testing.T) {
	for i, x := range small().Pairs {
		for n := range 30 {
			m := small()
			m.Pairs[i].Table = make([]int, n)
			want := api.ErrInvalid
			if n == len(x.Table) {
				want = api.OK
			}
			checkValid(t, m, want)
		}
	}
	m := small()
	m.Classes[2] = nil // so that there are no entries, and no option for a load
	checkValid(t, m, api.ErrInvalid)
	m.Pairs[1].Table, m.Pairs[2].Table = nil, nil
	checkValid(t, m, api.ErrInvalid)
	m.Counts = m.Counts[1:]
	checkValid(t, m, api.OK)
}

// P17.1: pairs in all orders of their numbers.
func TestValidOrder(t *testing.T) {
	m := empty(4, 1)
	m.Rules = 3
	var l []api.Pair
	for rule := range 3 {
		for first := range 4 {
			for second := first + 1; second < 4; second++ {
				l = append(l, api.Pair{First: first, Second: second, Rule: rule, Table: []int{1}})
			}
		}
	}
	for i, a := range l {
		for k, b := range l {
			want := api.ErrInvalid
			if i < k {
				want = api.OK
			}
			m.Pairs = []api.Pair{a, b}
			checkValid(t, m, want)
			if i+1 < k { // one between them is in order
				m.Pairs = []api.Pair{a, l[i+1], b}
				checkValid(t, m, want)
				m.Pairs = []api.Pair{a, b, l[i+1]}
				checkValid(t, m, api.ErrInvalid)
			}
		}
	}
	m.Pairs = l
	checkValid(t, m, api.OK)
	for _, c := range []api.Count{{Rule: 2, Penalty: 1}, {Rule: 0, Penalty: 1}, {Rule: 0, Penalty: 1}} { // counts may be in any order
		m.Counts = append(m.Counts, c)
		checkValid(t, m, api.OK)
	}
}

// P17.1: what is wrong anywhere is looked at.
func TestValidAnywhere(t *testing.T) {
	m := full()
	for class := range api.MaxClasses {
		for option := range api.MaxOptions {
			for _, i := range []int{0, 30, maxRules - 1} {
				x := &m.Classes[class][option].Charges[i]
				x.Cost = 0
				checkInvalid(t, m)
				x.Cost = 1
			}
		}
	}
	for i := range m.Pairs {
		if i%100 < 2 {
			x := m.Pairs[i].Rule
			m.Pairs[i].Rule = maxRules
			checkInvalid(t, m)
			m.Pairs[i].Rule = x
		}
	}
	for i := range m.Counts {
		m.Counts[i].Penalty = 0
		checkInvalid(t, m)
		m.Counts[i].Penalty = 1
		m.Counts[i].Loads = m.Counts[i].Loads[:i%100]
	}
	checkValid(t, m, api.OK)
}

// checkInvalid checks that a large model is not valid.
func checkInvalid(t *testing.T, m api.Model) {
	t.Helper()
	if e := Valid(m); e != api.ErrInvalid {
		t.Errorf("Valid of a large model = %d", e)
	}
}
