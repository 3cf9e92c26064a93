package travel

import (
	"math"
	"slices"
	"strconv"
	"strings"
	"testing"

	"timetable/api"
)

// names returns n different codes.
func names(n int) []string {
	var l []string
	for i := range n {
		l = append(l, "B"+strconv.Itoa(i))
	}
	return l
}

// wrongCodes are no codes.
func wrongCodes() []string {
	return []string{"", "?", "_", "-", "_a", "-a", "a b", " a", "a ", "a;b", "a,b", "a.b", "a\n", "a\x00", "\u00e9", "a\xff", strings.Repeat("a", 17), strings.Repeat("a", 1000)}
}

// tableOf returns the table of n buildings with the entries for the pairs of buildings in ascending order; those that are not given are not known.
func tableOf(n int, entries ...int) api.Travel {
	t := api.Travel{Buildings: names(n)}
	for range n {
		t.Slots = append(t.Slots, make([]int, n))
	}
	for i := range n {
		for k := i + 1; k < n; k++ {
			entry := -1
			if len(entries) > 0 {
				entry, entries = entries[0], entries[1:]
			}
			t.Slots[i][k], t.Slots[k][i] = entry, entry
		}
	}
	return t
}

// cloneTable returns a table that shares no memory with another one.
func cloneTable(t api.Travel) api.Travel {
	c := api.Travel{Buildings: slices.Clone(t.Buildings)}
	for _, row := range t.Slots {
		c.Slots = append(c.Slots, slices.Clone(row))
	}
	return c
}

func equalTables(a, b api.Travel) bool {
	return slices.Equal(a.Buildings, b.Buildings) && slices.EqualFunc(a.Slots, b.Slots, slices.Equal)
}

// eachTable calls f with all tables of n buildings whose entries are some of those that are given.
func eachTable(n int, entries []int, f func(t api.Travel)) {
	pairs := n * (n - 1) / 2
	chosen := make([]int, pairs)
	var choose func(i int)
	choose = func(i int) {
		if i == pairs {
			f(tableOf(n, chosen...))
			return
		}
		for _, entry := range entries {
			chosen[i] = entry
			choose(i + 1)
		}
	}
	choose(0)
}

func checkBetween(t *testing.T, x api.Travel, a, b string, want int) {
	t.Helper()
	if n := Between(x, a, b); n != want {
		t.Errorf("Between(%v, %q, %q) = %d, want %d", x, a, b, n, want)
	}
}

// P8.4: the entries of valid tables, in both directions.
func TestBetween(t *testing.T) {
	x := tableOf(4, 1, -1, 24, 0, 7, 12)
	want := [][]int{{0, 1, 0, 24}, {1, 0, 0, 7}, {0, 0, 0, 12}, {24, 7, 12, 0}}
	before := cloneTable(x)
	for i, a := range x.Buildings {
		for k, b := range x.Buildings {
			checkBetween(t, x, a, b, want[i][k])
		}
		for _, other := range []string{"", "Z", "b0", "B", "B00", "B4"} {
			checkBetween(t, x, a, other, 0)
			checkBetween(t, x, other, a, 0)
		}
	}
	checkBetween(t, x, "Z", "Z", 0)
	checkBetween(t, x, "Y", "Z", 0)
	checkBetween(t, api.Travel{}, "", "", 0)
	checkBetween(t, api.Travel{}, "A", "B", 0)
	if !equalTables(x, before) {
		t.Errorf("after Between: %v", x)
	}
}

// P8.4: tables that are not valid.
func TestBetweenInvalid(t *testing.T) {
	two := []string{"A", "B"}
	for _, x := range []struct {
		what   string
		slots  [][]int
		ab, ba int
	}{
		{"no rows", nil, 0, 0},
		{"empty rows", [][]int{{}, {}}, 0, 0},
		{"second row", [][]int{nil, {5}}, 0, 5},
		{"short rows", [][]int{{0}, {5}}, 0, 5},
		{"first row", [][]int{{0, 5}}, 5, 0},
		{"long rows", [][]int{{0, 5, 9}, {6, 0, 9}, {9, 9, 9}}, 5, 6},
		{"one direction", [][]int{{0, -1}, {3, 0}}, 0, 3},
		{"a way to itself", [][]int{{7, -1}, {-1, 7}}, 0, 0},
		{"long ways", [][]int{{0, 25}, {1000, 0}}, 25, 1000},
		{"less than nothing", [][]int{{0, -2}, {math.MinInt, 0}}, -2, math.MinInt},
	} {
		t.Run(x.what, func(t *testing.T) {
			table := api.Travel{Buildings: two, Slots: x.slots}
			checkBetween(t, table, "A", "B", x.ab)
			checkBetween(t, table, "B", "A", x.ba)
			checkBetween(t, table, "A", "A", 0)
			checkBetween(t, table, "B", "B", 0)
			checkBetween(t, table, "A", "C", 0)
		})
	}
	for _, x := range []api.Travel{
		{Slots: [][]int{{0, 1}, {1, 0}}},
		{Buildings: []string{"A"}, Slots: [][]int{{0, 1}, {1, 0}}},
		{Buildings: []string{"", "?"}},
	} {
		for _, a := range []string{"A", "B", "", "?"} {
			for _, b := range []string{"A", "B", "", "?"} {
				checkBetween(t, x, a, b, 0)
			}
		}
	}
	many := tableOf(9, 3)
	many.Slots[0][8] = 4
	checkBetween(t, many, "B0", "B8", 4)
	checkBetween(t, many, "B0", "B1", 3)
	checkBetween(t, api.Travel{Buildings: []string{"", "?"}, Slots: [][]int{{0, 2}, {3, 0}}}, "?", "", 3)
}
