package coursefile

import (
	"math"
	"slices"
	"testing"

	"timetable/api"
	"timetable/timegrid"
)

func checkTimes(t *testing.T, c api.Class, g api.Grid, want []api.Time) {
	t.Helper()
	if l := Times(c, g); !slices.Equal(l, want) {
		t.Errorf("Times(%v, %v): %d times %.300v, want %d", c, g, len(l), l, len(want))
	}
}

// P10.3: for each pattern in order each start in order.
func TestTimes(t *testing.T) {
	checkTimes(t, class(), grid(), []api.Time{
		{Weeks: 341, Day: 0, Start: 2, Length: 2}, {Weeks: 341, Day: 1, Start: 2, Length: 2},
		{Weeks: 682, Day: 0, Start: 2, Length: 2}, {Weeks: 682, Day: 1, Start: 2, Length: 2},
	})
	one := class()
	one.Patterns, one.Starts = []int{7}, []api.Start{{Day: 4, Slot: 8}}
	checkTimes(t, one, grid(), []api.Time{{Weeks: 7, Day: 4, Start: 8, Length: 2}})
	checkTimes(t, api.Class{Length: 2, Patterns: []int{2, 1}}, api.Grid{Days: 2, Slots: 3, Minutes: 5}, []api.Time{
		{Weeks: 2, Day: 0, Start: 0, Length: 2}, {Weeks: 2, Day: 0, Start: 1, Length: 2}, {Weeks: 2, Day: 1, Start: 0, Length: 2}, {Weeks: 2, Day: 1, Start: 1, Length: 2},
		{Weeks: 1, Day: 0, Start: 0, Length: 2}, {Weeks: 1, Day: 0, Start: 1, Length: 2}, {Weeks: 1, Day: 1, Start: 0, Length: 2}, {Weeks: 1, Day: 1, Start: 1, Length: 2},
	})
	checkTimes(t, api.Class{Length: 1}, grid(), nil)
	checkTimes(t, api.Class{Length: 1, Starts: starts(3)}, grid(), nil)
}

// P10.3: without starts, all grids and lengths.
func TestTimesAllStarts(t *testing.T) {
	for days := 1; days <= 7; days++ {
		for slots := 1; slots <= 24; slots++ {
			g := api.Grid{Days: days, Slots: slots, Begin: 60, Minutes: 50}
			for length := -1; length <= 26; length++ {
				var want []api.Time
				for _, weeks := range []int{1023, 5} {
					for place := range days * slots {
						x := api.Time{Weeks: weeks, Day: place / slots, Start: place % slots, Length: length}
						if length >= 1 && x.Start+length <= slots {
							want = append(want, x)
						}
					}
				}
				checkTimes(t, api.Class{Length: length, Patterns: []int{1023, 5}}, g, want)
				checkTimes(t, api.Class{Length: length, Patterns: []int{1023, 5}, Starts: []api.Start{}}, g, want)
			}
		}
	}
}

// P10.3: without a grid, or with a length that is not in it, there are none.
func TestTimesNone(t *testing.T) {
	for _, g := range wrongGrids() {
		for _, c := range []api.Class{class(), small("c"), {}} {
			checkTimes(t, c, g, nil)
		}
	}
	for _, n := range []int{math.MinInt, -1, 0, 11, 24, 1<<32 + 1, math.MaxInt} {
		for _, c := range []api.Class{class(), small("c")} {
			c.Length = n
			checkTimes(t, c, grid(), nil)
		}
	}
}

// P10.3: 4096 times are not too many, but one more is.
func TestTimesSize(t *testing.T) {
	numbers := func(n int) []int {
		var l []int
		for i := range n {
			l = append(l, i+1)
		}
		return l
	}
	for _, x := range []struct{ patterns, starts int }{
		{1, 4095}, {1, 4096}, {1, 4097}, {4095, 1}, {4096, 1}, {4097, 1}, {64, 64}, {64, 65}, {65, 64}, {63, 65}, {65, 63}, {2, 2048}, {2, 2049}, {2048, 2}, {2049, 2}, {17, 241}, {1, 100000}, {100000, 1}, {3000, 3000}, {100000, 100000},
	} {
		c := api.Class{Length: 1, Patterns: numbers(x.patterns), Starts: slices.Repeat([]api.Start{{Day: 1, Slot: 1}}, x.starts)}
		n := x.patterns * x.starts
		if n > 4096 {
			n = 0
		}
		l := Times(c, grid())
		if len(l) != n || n > 0 && l[n-1] != (api.Time{Weeks: x.patterns, Day: 1, Start: 1, Length: 1}) {
			t.Errorf("%d patterns and %d starts: %d times", x.patterns, x.starts, len(l))
		}
	}
	for patterns := 80; patterns <= 84; patterns++ {
		n := patterns * 50
		if n > 4096 {
			n = 0
		}
		if l := Times(api.Class{Length: 1, Patterns: numbers(patterns)}, grid()); len(l) != n {
			t.Errorf("%d patterns without starts: %d times", patterns, len(l))
		}
	}
	if l := Times(api.Class{Length: 9, Patterns: numbers(4096)}, api.Grid{Days: 1, Slots: 9, Minutes: 5}); len(l) != 4096 {
		t.Errorf("4096 patterns and one start: %d times", len(l))
	}
}

// P10.3: nothing but the grid and the length is looked at; starts stay in their order.
func TestTimesUnsound(t *testing.T) {
	c := api.Class{Code: "?", Length: 10, Patterns: []int{0, -1, 0, math.MaxInt}, Seats: -1, Features: []string{"?"}, Starts: []api.Start{{Day: 9, Slot: math.MaxInt}, {Day: math.MinInt, Slot: -1}, {}, {}}}
	var want []api.Time
	for _, weeks := range c.Patterns {
		for _, s := range c.Starts {
			want = append(want, api.Time{Weeks: weeks, Day: s.Day, Start: s.Slot, Length: 10})
		}
	}
	checkTimes(t, c, grid(), want)
}

// The consequence: every time of a valid class fits.
func TestTimesFit(t *testing.T) {
	for _, c := range sample() {
		for _, x := range Times(c, grid()) {
			if e := timegrid.Fits(grid(), tenWeeks, x); e != api.OK {
				t.Errorf("the time %v of %v has the error %d", x, c, e)
			}
		}
	}
}

// P10.3, R2: the class stays as it is, and results share no memory.
func TestTimesMemory(t *testing.T) {
	c := class()
	a, b := Times(c, grid()), Times(c, grid())
	a[0] = api.Time{}
	checkClasses(t, []api.Class{c}, []api.Class{class()})
	checkTimes(t, c, grid(), b)
	if b[0].Length != 2 {
		t.Errorf("the other times: %v", b)
	}
}
