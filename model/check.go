package model

import (
	"cmp"
	"slices"

	"timetable/api"
)

const maxRules = api.MaxRules + api.MaxExtra // of a model

// isSmall reports whether a model has not too much of anything.
func isSmall(m api.Model) bool {
	hasTooMany := func(options []api.Option) bool { return len(options) > api.MaxOptions }
	return len(m.Classes) <= api.MaxClasses && !slices.ContainsFunc(m.Classes, hasTooMany) &&
		len(m.Pairs) <= api.MaxPairs && len(m.Counts) <= api.MaxCounts && within(m.Rules, 0, maxRules)
}

// areCharges reports whether the charges of all options are sound.
func areCharges(m api.Model) bool {
	isCharge := func(x api.Charge) bool { return isRule(m, x.Rule) && isCost(x.Cost) }
	isWrong := func(o api.Option) bool { return !ascend(o.Charges, isCharge, compareCharges) }
	hasWrong := func(options []api.Option) bool { return slices.ContainsFunc(options, isWrong) }
	return !slices.ContainsFunc(m.Classes, hasWrong)
}

// arePairs reports whether the pairs of a model are sound.
func arePairs(m api.Model) bool {
	isOne := func(p api.Pair) bool { return isPair(m, p) }
	return ascend(m.Pairs, isOne, comparePairs)
}

// areCounts reports whether the counts of a model are sound, which may be in any order.
func areCounts(m api.Model) bool {
	isWrong := func(c api.Count) bool { return !isCount(m, c) }
	return !slices.ContainsFunc(m.Counts, isWrong)
}

func isPair(m api.Model, p api.Pair) bool {
	return isRule(m, p.Rule) && isClass(m, p.First) && isClass(m, p.Second) && p.First < p.Second &&
		len(p.Table) == len(m.Classes[p.First])*len(m.Classes[p.Second]) && areEntries(p.Table)
}

func isCount(m api.Model, c api.Count) bool {
	isLoad := func(x api.Load) bool {
		return isClass(m, x.Class) && isOption(m, x.Class, x.Option) && within(x.Weight, 1, api.MaxWeight)
	}
	return isRule(m, c.Rule) && ascend(c.Loads, isLoad, compareLoads) && within(c.Most, 0, api.MaxCost) && isCost(c.Penalty)
}

func areEntries(table []int) bool {
	for _, entry := range table {
		if entry != 0 && !isCost(entry) {
			return false
		}
	}
	return true
}

func isCost(n int) bool { return within(n, 1, api.MaxCost) || n == api.Forbidden }

func isRule(m api.Model, i int) bool { return within(i, 0, m.Rules-1) }

func isClass(m api.Model, i int) bool { return within(i, 0, len(m.Classes)-1) }

// isOption reports whether i is the index of an option of a class, which there is.
func isOption(m api.Model, class, i int) bool { return within(i, 0, len(m.Classes[class])-1) }

func compareCharges(a, b api.Charge) int { return cmp.Compare(a.Rule, b.Rule) }

func comparePairs(a, b api.Pair) int {
	return cmp.Or(cmp.Compare(a.Rule, b.Rule), cmp.Compare(a.First, b.First), cmp.Compare(a.Second, b.Second))
}

func compareLoads(a, b api.Load) int {
	return cmp.Or(cmp.Compare(a.Class, b.Class), cmp.Compare(a.Option, b.Option))
}

// ascend reports whether all elements of a list are sound, and each is greater than the one before.
func ascend[T any](l []T, isSound func(x T) bool, compare func(a, b T) int) bool {
	for i, x := range l {
		if !isSound(x) || i > 0 && compare(l[i-1], x) >= 0 {
			return false
		}
	}
	return true
}

func within(n, least, most int) bool { return least <= n && n <= most }
