package travel

import (
	"math"
	"slices"
	"strings"
	"testing"

	"timetable/api"
)

// checkValid checks the error of a table, which Write and Close return as well.
func checkValid(t *testing.T, x api.Travel, want api.Errno) {
	t.Helper()
	before := cloneTable(x)
	if e := Valid(x); e != want {
		t.Errorf("Valid(%v) = %d, want %d", x, e, want)
	}
	if w, e := Write(x); e != want || e != api.OK && w != nil {
		t.Errorf("Write(%v) = %v, %d, want the error %d", x, w, e, want)
	}
	if c, e := Close(x); e != want || e != api.OK && (c.Buildings != nil || c.Slots != nil) {
		t.Errorf("Close(%v) = %v, %d, want the error %d", x, c, e, want)
	}
	if !equalTables(x, before) {
		t.Errorf("%v has become %v", before, x)
	}
}

// P8.1: how many buildings there can be.
func TestValidSize(t *testing.T) {
	checkValid(t, api.Travel{}, api.OK)
	checkValid(t, api.Travel{Buildings: []string{}, Slots: [][]int{}}, api.OK)
	for n := range 12 {
		want := api.OK
		if n > 8 {
			want = api.ErrSize
		}
		checkValid(t, tableOf(n), want)
		checkValid(t, tableOf(n, 0, 24, 3), want)
	}
	checkValid(t, api.Travel{Buildings: make([]string, 1000)}, api.ErrSize)
}

// P8.1: buildings are codes, and all different.
func TestValidBuildings(t *testing.T) {
	named := func(want api.Errno, buildings ...string) {
		t.Helper()
		x := tableOf(len(buildings), 1, 2, 3)
		x.Buildings = buildings
		checkValid(t, x, want)
		checkValid(t, api.Travel{Buildings: buildings, Slots: x.Slots}, want)
	}
	for _, s := range []string{"A", "9", "a_", "a-", strings.Repeat("Z", 16)} {
		named(api.OK, s)
		named(api.OK, s, "B")
		named(api.OK, "B", "C", s)
		named(api.ErrDuplicate, s, s)
		named(api.ErrDuplicate, "B", s, "C", s)
	}
	for _, s := range wrongCodes() {
		named(api.ErrCode, s)
		named(api.ErrCode, s, "B")
		named(api.ErrCode, "B", "C", s)
		named(api.ErrCode, s, s)
	}
	named(api.OK, "A", "a", "A0", "A00", "A_", "A-", "0", "00")
	named(api.ErrDuplicate, "A", "B", "C", "D", "E", "F", "G", "A")
	named(api.ErrDuplicate, "A", "B", "C", "D", "E", "F", "G", "G")
	named(api.ErrDuplicate, "A", "A", "?")
	named(api.ErrCode, "A", "?", "A")
	named(api.ErrCode, "?", "A", "A")
}

// P8.1: as many rows, and entries of each, as buildings.
func TestValidShape(t *testing.T) {
	for n := range 9 {
		for rows := range 11 {
			x := tableOf(n, 2, 3)
			x.Slots = slices.Repeat([][]int{make([]int, n)}, rows)
			want := api.OK
			if rows != n {
				want = api.ErrInvalid
			}
			checkValid(t, x, want)
		}
		for row := range n {
			for length := range 11 {
				x := tableOf(n)
				x.Slots[row] = make([]int, length)
				if length != n {
					checkValid(t, x, api.ErrInvalid)
				}
			}
		}
	}
	checkValid(t, api.Travel{Slots: [][]int{{}}}, api.ErrInvalid)
	checkValid(t, api.Travel{Slots: [][]int{{0}}}, api.ErrInvalid)
	checkValid(t, api.Travel{Buildings: []string{"A"}}, api.ErrInvalid)
	checkValid(t, api.Travel{Buildings: []string{"A", "B"}, Slots: [][]int{{0, 1}, nil}}, api.ErrInvalid)
}

// P8.1: each entry in turn.
func TestValidEntries(t *testing.T) {
	for n := 1; n <= 8; n++ {
		for i := range n {
			for k := range n {
				for _, entry := range []int{math.MinInt, -24, -2, -1, 0, 1, 23, 24, 25, 26, 1 << 32, math.MaxInt} {
					x := tableOf(n, 5, 24, 0, 7)
					x.Slots[i][k], x.Slots[k][i] = entry, entry
					want := api.OK
					if entry < -1 || entry > 24 || i == k && entry != 0 {
						want = api.ErrRange
					}
					checkValid(t, x, want)
				}
			}
		}
	}
}

// P8.1: a way takes the same slots in both directions.
func TestValidDirections(t *testing.T) {
	for i := range 4 {
		for k := range 4 {
			for there := -1; there <= 24; there++ {
				for back := -1; back <= 24; back++ {
					if i == k {
						continue
					}
					x := tableOf(4, 1, 2, 3)
					x.Slots[i][k], x.Slots[k][i] = there, back
					want := api.OK
					if there != back {
						want = api.ErrRange
					}
					checkValid(t, x, want)
				}
			}
		}
	}
}

// P8.1: all sets of faults; the first one decides.
func TestValidOrder(t *testing.T) {
	faults := []struct {
		e    api.Errno
		harm func(x *api.Travel)
	}{
		{api.ErrSize, func(x *api.Travel) { x.Buildings = append(x.Buildings, names(7)...) }},
		{api.ErrCode, func(x *api.Travel) { x.Buildings[0] = "?" }},
		{api.ErrDuplicate, func(x *api.Travel) { x.Buildings[2] = x.Buildings[1] }},
		{api.ErrInvalid, func(x *api.Travel) { x.Slots = append(x.Slots, nil) }},
		{api.ErrRange, func(x *api.Travel) { x.Slots[0][1] = 25 }},
		{api.ErrRange, func(x *api.Travel) { x.Slots[1][1] = 1 }},
		{api.ErrRange, func(x *api.Travel) { x.Slots[2][1] = 0 }},
	}
	for set := 1; set < 1<<len(faults); set++ {
		x, want := tableOf(3, 1, 2, 3), api.OK
		for i, f := range slices.Backward(faults) {
			if set>>i&1 == 1 {
				f.harm(&x)
				want = f.e
			}
		}
		checkValid(t, x, want)
	}
}
