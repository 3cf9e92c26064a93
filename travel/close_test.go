package travel

import (
	"testing"

	"timetable/api"
)

func checkClose(t *testing.T, x, want api.Travel) {
	t.Helper()
	if c, e := Close(x); e != api.OK || !equalTables(c, want) {
		t.Errorf("Close(%v) = %v, %d; want %v", x, c, e, want)
	}
}

// leastSum returns the least sum of the entries on all ways from a building to another one that go to none of the buildings of passed (a set of indices) and to no building twice; -1 if there is none.
func leastSum(slots [][]int, from, to, passed int) int {
	if from == to {
		return 0
	}
	least := -1
	passed |= 1 << from
	for next, entry := range slots[from] {
		if entry < 0 || passed>>next&1 == 1 {
			continue
		}
		if rest := leastSum(slots, next, to, passed); rest >= 0 && (least < 0 || entry+rest < least) {
			least = entry + rest
		}
	}
	return least
}

// closedBySearch is what Close should return: it looks at all ways.
func closedBySearch(x api.Travel) api.Travel {
	c := cloneTable(x)
	for i := range c.Slots {
		for k := range c.Slots {
			c.Slots[i][k] = min(leastSum(x.Slots, i, k, 0), 24)
		}
	}
	return c
}

// checkClosed checks a closed table with all its consequences.
func checkClosed(t *testing.T, x api.Travel) {
	t.Helper()
	before, want := cloneTable(x), closedBySearch(x)
	checkClose(t, x, want)
	checkClose(t, want, want)
	if !equalTables(x, before) {
		t.Errorf("%v has become %v", before, x)
	}
	if e := Valid(want); e != api.OK {
		t.Errorf("the closed table %v has the error %d", want, e)
	}
	for i, row := range want.Slots {
		for k, direct := range row {
			for over := range row {
				first, second := want.Slots[i][over], want.Slots[over][k]
				if first >= 0 && second >= 0 && (direct < 0 || first+second < direct) {
					t.Errorf("in %v the way from %d to %d over %d is shorter", want, i, k, over)
				}
			}
		}
	}
}

// P8.4: some tables with their closed ones.
func TestClose(t *testing.T) {
	checkClose(t, api.Travel{}, api.Travel{})
	checkClose(t, tableOf(1), tableOf(1))
	checkClose(t, tableOf(2), tableOf(2))
	checkClose(t, tableOf(2, 0), tableOf(2, 0))
	checkClose(t, tableOf(2, 24), tableOf(2, 24))
	checkClose(t, tableOf(3, 1, -1, 1), tableOf(3, 1, 2, 1))
	checkClose(t, tableOf(3, 1, 5, 1), tableOf(3, 1, 2, 1))
	checkClose(t, tableOf(3, 1, 2, 1), tableOf(3, 1, 2, 1))
	checkClose(t, tableOf(3, 1, 1, 1), tableOf(3, 1, 1, 1))
	checkClose(t, tableOf(3, 0, -1, 0), tableOf(3, 0, 0, 0))
	checkClose(t, tableOf(3, 1, -1, -1), tableOf(3, 1, -1, -1))
	checkClose(t, tableOf(3, 12, -1, 12), tableOf(3, 12, 24, 12))
	checkClose(t, tableOf(3, 12, -1, 13), tableOf(3, 12, 24, 13))
	checkClose(t, tableOf(3, 24, -1, 24), tableOf(3, 24, 24, 24))
	checkClose(t, tableOf(4, -1, -1, 1, 1, -1, 1), tableOf(4, 3, 2, 1, 1, 2, 1))
}

// P8.4: all tables of a few buildings.
func TestCloseAll(t *testing.T) {
	for n := range 3 {
		eachTable(n, []int{-1, 0, 1, 2, 23, 24}, func(x api.Travel) { checkClosed(t, x) })
	}
	eachTable(3, []int{-1, 0, 1, 2, 3, 11, 12, 13, 23, 24}, func(x api.Travel) { checkClosed(t, x) })
	eachTable(4, []int{-1, 0, 1, 3, 12, 24}, func(x api.Travel) { checkClosed(t, x) })
}

// P8.4: a line of buildings whose places in the table are in every order, so that the longest way goes over all others.
func TestCloseLine(t *testing.T) {
	for _, length := range []int{0, 1, 3, 4, 24} {
		for n := 2; n <= 6; n++ {
			eachOrder(n, func(places []int) {
				x, want := tableOf(n), tableOf(n)
				for i := range n {
					for k := range n {
						distance := max(i-k, k-i)
						if distance == 1 {
							x.Slots[places[i]][places[k]] = length
						}
						want.Slots[places[i]][places[k]] = min(24, distance*length)
					}
				}
				checkClose(t, x, want)
			})
		}
	}
}

// eachOrder calls f with the numbers from 0 to n - 1 in every order.
func eachOrder(n int, f func(places []int)) {
	var places []int
	used := make([]bool, n)
	var place func()
	place = func() {
		if len(places) == n {
			f(places)
			return
		}
		for i := range n {
			if !used[i] {
				used[i], places = true, append(places, i)
				place()
				used[i], places = false, places[:len(places)-1]
			}
		}
	}
	place()
}

// P8.4: tables of as many buildings as there can be, sparse and dense, with short and long ways.
func TestCloseLarge(t *testing.T) {
	state := uint32(1)
	next := func(n int) int {
		state = state*1664525 + 1013904223
		return int(state>>16) % n
	}
	for round := range 120 {
		known, longest := 1+round%8, []int{1, 3, 9, 24}[round/8%4]
		var entries []int
		for range 28 {
			entry := -1
			if next(8) < known {
				entry = next(longest + 1)
			}
			entries = append(entries, entry)
		}
		checkClosed(t, tableOf(8, entries...))
	}
}

// P8.4, R2: the closed table shares no memory with the other one, nor its rows with each other.
func TestCloseMemory(t *testing.T) {
	x := tableOf(3, 1, -1, 1)
	c, _ := Close(x)
	c.Buildings[0] = "?"
	for i := range c.Slots {
		_ = append(c.Slots[i], 9)
		c.Slots[i][2] = 9 + i
	}
	if !equalTables(x, tableOf(3, 1, -1, 1)) {
		t.Errorf("after Close: %v", x)
	}
	if c.Slots[0][2] != 9 || c.Slots[1][2] != 10 || c.Slots[2][2] != 11 || c.Slots[1][0] != 1 || c.Slots[2][0] != 2 {
		t.Errorf("rows: %v", c.Slots)
	}
}

// The examples of the chapter.
func TestExamples(t *testing.T) {
	x, p := Read(recordsOf("A,B,1", "B,C,1"))
	if len(p) > 0 || x.Slots[0][2] != -1 {
		t.Errorf("table %v, %v", x, p)
	}
	c, e := Close(x)
	if e != api.OK || c.Slots[0][2] != 2 {
		t.Errorf("closed table %v, %d", c, e)
	}
	checkBetween(t, x, "A", "C", 0)
	checkBetween(t, c, "A", "C", 2)
	checkBetween(t, c, "A", "D", 0)
}
