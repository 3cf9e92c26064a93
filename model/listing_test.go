package model

import (
	"math/rand/v2"
	"slices"
	"testing"

	"timetable/api"
)

// isPart reports whether a list arises from another one, which has no element twice, by leaving out elements.
func isPart[T comparable](l, all []T) bool {
	for _, x := range l {
		i := slices.Index(all, x)
		if i < 0 {
			return false
		}
		all = all[i+1:]
	}
	return true
}

// numbers are those from 0 to n - 1.
func numbers(n int) []int {
	var l []int
	for i := range n {
		l = append(l, i)
	}
	return l
}

// listedPairs are all pairs that a model may have, in order, with a 0 for each entry of their tables.
func listedPairs(m api.Model) (all [][3]int, entries []int) {
	for rule := range m.Rules {
		for second := range m.Classes {
			for first := range second {
				all = append(all, [3]int{rule, first, second})
			}
		}
	}
	slices.SortFunc(all, func(a, b [3]int) int { return slices.Compare(a[:], b[:]) })
	for _, x := range all {
		entries = append(entries, len(m.Classes[x[1]])*len(m.Classes[x[2]]))
	}
	return all, entries
}

// isListed reports whether a model that is not too great is valid, by another reading: everything that it may have is listed in order, and what it has is a part of that.
func isListed(m api.Model) bool {
	var costs, rules, weights, sums []int
	var choices []api.Choice
	isRight := true
	for class, options := range m.Classes {
		for option, o := range options {
			choices = append(choices, api.Choice{Class: class, Option: option})
			var l []int
			for _, x := range o.Charges {
				l, costs = append(l, x.Rule), append(costs, x.Cost)
			}
			isRight = isRight && isPart(l, numbers(m.Rules))
		}
	}
	all, entries := listedPairs(m)
	var pairs [][3]int
	for _, p := range m.Pairs {
		x := [3]int{p.Rule, p.First, p.Second}
		i := slices.Index(all, x)
		isRight = isRight && i >= 0 && entries[i] == len(p.Table)
		pairs = append(pairs, x)
		for _, n := range p.Table {
			costs = append(costs, max(n, 1)+min(n, 0)) // 0 becomes 1
		}
	}
	for _, c := range m.Counts {
		var loads []api.Choice
		for _, x := range c.Loads {
			loads, weights = append(loads, api.Choice{Class: x.Class, Option: x.Option}), append(weights, x.Weight)
		}
		isRight = isRight && isPart(loads, choices)
		rules, costs, sums = append(rules, c.Rule), append(costs, c.Penalty), append(sums, c.Most)
	}
	isIn := func(l []int, isRight func(n int) bool) bool {
		return !slices.ContainsFunc(l, func(n int) bool { return !isRight(n) })
	}
	return isRight && isPart(pairs, all) && isIn(costs, isAnyCost) && isIn(rules, from(0, m.Rules-1)) && isIn(weights, from(1, 1000)) && isIn(sums, from(0, 1<<20))
}

// anyModel returns a valid model of few classes and rules.
func anyModel(random *rand.Rand) api.Model {
	cost := func() int { return []int{1, 7, api.MaxCost, api.Forbidden}[random.IntN(4)] }
	m := api.Model{Rules: 1 + random.IntN(4)}
	for range random.IntN(5) {
		options := make([]api.Option, random.IntN(4))
		for i := range options {
			for _, rule := range some(random, numbers(m.Rules)...) {
				options[i].Charges = append(options[i].Charges, api.Charge{Rule: rule, Cost: cost()})
			}
		}
		m.Classes = append(m.Classes, options)
	}
	all, entries := listedPairs(m)
	for _, i := range some(random, numbers(len(all))...) {
		table := make([]int, entries[i])
		for k := range table {
			table[k] = random.IntN(2) * cost()
		}
		m.Pairs = append(m.Pairs, api.Pair{Rule: all[i][0], First: all[i][1], Second: all[i][2], Table: table})
	}
	for range random.IntN(4) {
		c := api.Count{Rule: random.IntN(m.Rules), Most: random.IntN(9), Penalty: cost()}
		for class, options := range m.Classes {
			for _, option := range some(random, numbers(len(options))...) {
				c.Loads = append(c.Loads, api.Load{Class: class, Option: option, Weight: 1 + random.IntN(1000)})
			}
		}
		m.Counts = append(m.Counts, c)
	}
	return m
}

// numbersOf returns where the numbers of a model stand.
func numbersOf(m *api.Model) []*int {
	l := []*int{&m.Rules}
	for _, options := range m.Classes {
		for _, o := range options {
			for i := range o.Charges {
				l = append(l, &o.Charges[i].Rule, &o.Charges[i].Cost)
			}
		}
	}
	for i := range m.Pairs {
		p := &m.Pairs[i]
		l = append(l, &p.Rule, &p.First, &p.Second)
		for k := range p.Table {
			l = append(l, &p.Table[k])
		}
	}
	for i := range m.Counts {
		c := &m.Counts[i]
		l = append(l, &c.Rule, &c.Most, &c.Penalty)
		for k := range c.Loads {
			l = append(l, &c.Loads[k].Class, &c.Loads[k].Option, &c.Loads[k].Weight)
		}
	}
	return l
}

// damage changes a model a bit: a number, or the order or the number of what it has.
func damage(random *rand.Rand, m *api.Model) {
	switch l := numbersOf(m); random.IntN(8) {
	case 0:
		if len(m.Pairs) > 1 {
			m.Pairs[0], m.Pairs[1] = m.Pairs[1], m.Pairs[0]
		}
	case 1:
		if len(m.Counts) > 1 {
			m.Counts[0], m.Counts[1] = m.Counts[1], m.Counts[0]
		}
	case 2:
		if len(m.Counts) > 0 && len(m.Counts[0].Loads) > 0 {
			m.Counts[0].Loads = append(m.Counts[0].Loads, m.Counts[0].Loads[0])
		}
	case 3:
		if len(m.Classes) > 0 {
			m.Classes[0] = m.Classes[0][:len(m.Classes[0])/2]
		}
	default:
		n := l[random.IntN(len(l))]
		*n = []int{*n - 1, *n + 1, *n + 1, 0, 1, 2}[random.IntN(6)]
	}
}

// P17.1, another reading: lists of everything that a model may have, for any models, damaged a bit.
func TestListing(t *testing.T) {
	random := rand.New(rand.NewPCG(17, 3))
	sound := 0
	for range 30000 {
		m := anyModel(random)
		checkValid(t, m, api.OK)
		for range 2 {
			damage(random, &m)
			want := api.ErrInvalid
			switch {
			case m.Rules < 0:
				want = api.ErrSize
			case isListed(m):
				want = api.OK
				sound++
			}
			checkValid(t, m, want)
		}
	}
	if sound < 10000 || sound > 50000 {
		t.Errorf("%d of 60000 models are valid", sound)
	}
}
