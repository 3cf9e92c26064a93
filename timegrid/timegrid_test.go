package timegrid

import (
	"math"
	"testing"

	"timetable/api"
)

// extremes are numbers that no field of a grid or of a time can have; some of them could if only their last 32 bits counted, or if a sum with them overflowed.
var extremes = []int{math.MinInt, math.MinInt + 1, math.MinInt + 24, -1 << 62, math.MinInt32, -1 << 21, -1440, -24, 1 << 20, 1 << 21, math.MaxInt32, 1 << 32, 1<<32 + 1, 1<<32 + 7, 1 << 62, math.MaxInt - 120, math.MaxInt - 24, math.MaxInt - 1, math.MaxInt}

func grid() api.Grid { return api.Grid{Days: 5, Slots: 10, Begin: 480, Minutes: 45} }

// wideGrid has room for every sound time.
func wideGrid() api.Grid { return api.Grid{Days: 7, Slots: 24, Begin: 0, Minutes: 60} }

// wrongGrids are not valid, each for one reason.
func wrongGrids() []api.Grid {
	l := []api.Grid{
		{},
		{Days: 0, Slots: 10, Begin: 480, Minutes: 45},
		{Days: 8, Slots: 10, Begin: 480, Minutes: 45},
		{Days: 5, Slots: 0, Begin: 480, Minutes: 45},
		{Days: 5, Slots: 25, Begin: 480, Minutes: 5},
		{Days: 5, Slots: 10, Begin: -1, Minutes: 45},
		{Days: 5, Slots: 1, Begin: 1440, Minutes: 5},
		{Days: 5, Slots: 10, Begin: 480, Minutes: 4},
		{Days: 5, Slots: 5, Begin: 480, Minutes: 121},
		{Days: 5, Slots: 10, Begin: 1440 - 449, Minutes: 45},
		{Days: 5, Slots: 1, Begin: 1439, Minutes: 5},
		{Days: 7, Slots: 24, Begin: 0, Minutes: 61},
		{Days: 7, Slots: 24, Begin: 1, Minutes: 60},
	}
	for _, n := range extremes {
		l = append(l, api.Grid{Days: n, Slots: 10, Begin: 480, Minutes: 45}, api.Grid{Days: 5, Slots: n, Begin: 480, Minutes: 45},
			api.Grid{Days: 5, Slots: 10, Begin: n, Minutes: 45}, api.Grid{Days: 5, Slots: 10, Begin: 480, Minutes: n}, api.Grid{Days: n, Slots: n, Begin: n, Minutes: n})
	}
	return l
}

// wrongWeeks are what no term has as its number of weeks.
func wrongWeeks() []int { return append([]int{-20, -1, 0, 21, 22, 63, 64, 65}, extremes...) }

// unsound are times that are not sound, each for one reason.
func unsound() []api.Time {
	l := []api.Time{
		{},
		{Weeks: 0, Day: 0, Start: 0, Length: 1},
		{Weeks: -1, Day: 0, Start: 0, Length: 1},
		{Weeks: 1 << 20, Day: 0, Start: 0, Length: 1},
		{Weeks: 1<<20 + 1, Day: 0, Start: 0, Length: 1},
		{Weeks: 1, Day: -1, Start: 0, Length: 1},
		{Weeks: 1, Day: 7, Start: 0, Length: 1},
		{Weeks: 1, Day: 0, Start: -1, Length: 1},
		{Weeks: 1, Day: 0, Start: -1, Length: 5},
		{Weeks: 1, Day: 0, Start: 0, Length: 0},
		{Weeks: 1, Day: 0, Start: 5, Length: 0},
		{Weeks: 1, Day: 0, Start: 5, Length: -1},
		{Weeks: 1, Day: 0, Start: 0, Length: 25},
		{Weeks: 1, Day: 0, Start: 23, Length: 2},
		{Weeks: 1, Day: 0, Start: 24, Length: 1},
		{Weeks: 1, Day: 0, Start: 24, Length: 0},
		{Weeks: 1, Day: 0, Start: 30, Length: -10},
	}
	for _, n := range extremes {
		l = append(l, api.Time{Weeks: n, Length: 1}, api.Time{Weeks: 1, Day: n, Length: 1}, api.Time{Weeks: 1, Start: n, Length: 1},
			api.Time{Weeks: 1, Length: n}, api.Time{Weeks: 1, Start: n, Length: n}, api.Time{Weeks: 1, Start: n, Length: -n}, api.Time{Weeks: n, Day: n, Start: n, Length: n})
	}
	for i := range 64 {
		if i >= 20 {
			l = append(l, api.Time{Weeks: 1 << i, Length: 1}, api.Time{Weeks: 1<<i | 1, Length: 1})
		}
	}
	return l
}

func checkValid(t *testing.T, g api.Grid, ok bool) {
	t.Helper()
	want := api.ErrRange
	if ok {
		want = api.OK
	}
	if e := Valid(g); e != want {
		t.Errorf("Valid(%v) = %d", g, e)
	}
}

// P6.1: the borders of all fields of a grid.
func TestValid(t *testing.T) {
	for days := -2; days <= 10; days++ {
		checkValid(t, api.Grid{Days: days, Slots: 10, Begin: 480, Minutes: 45}, 1 <= days && days <= 7)
	}
	for slots := -2; slots <= 30; slots++ {
		for minutes := -2; minutes <= 130; minutes++ {
			inside := 1 <= slots && slots <= 24 && 5 <= minutes && minutes <= 120
			for _, begin := range []int{-1440, -120, -2, -1, 0, 1, 480, 1434, 1435, 1436, 1439, 1440, 1441, 1440 - slots*minutes - 1, 1440 - slots*minutes, 1440 - slots*minutes + 1} {
				g := api.Grid{Days: 1 + (slots+minutes+4)%7, Slots: slots, Begin: begin, Minutes: minutes}
				checkValid(t, g, inside && 0 <= begin && begin <= 1439 && begin+slots*minutes <= 1440)
			}
		}
	}
	for _, g := range wrongGrids() {
		checkValid(t, g, false)
	}
	checkValid(t, grid(), true)
	checkValid(t, wideGrid(), true)
	checkValid(t, api.Grid{Days: 1, Slots: 1, Begin: 1435, Minutes: 5}, true)
	checkValid(t, api.Grid{Days: 1, Slots: 12, Begin: 0, Minutes: 120}, true)
}

// P6.1: the borders of all fields of a time.
func TestSound(t *testing.T) {
	for _, weeks := range []int{-1, 0, 1, 2, 1 << 19, 1<<20 - 1, 1 << 20, 1<<20 + 1} {
		for day := -2; day <= 8; day++ {
			for start := -3; start <= 27; start++ {
				for length := -3; length <= 28; length++ {
					x := api.Time{Weeks: weeks, Day: day, Start: start, Length: length}
					want := 1 <= weeks && weeks < 1<<20 && 0 <= day && day <= 6 && start >= 0 && length >= 1 && start+length <= 24
					if Sound(x) != want {
						t.Errorf("Sound(%v) = %v", x, !want)
					}
				}
			}
		}
	}
	for _, x := range unsound() {
		if Sound(x) {
			t.Errorf("Sound(%v)", x)
		}
	}
}

func checkFits(t *testing.T, g api.Grid, weeks int, x api.Time, want api.Errno) {
	t.Helper()
	if e := Fits(g, weeks, x); e != want {
		t.Errorf("Fits(%v, %d, %v) = %d, want %d", g, weeks, x, e, want)
	}
}

// P6.1: times at the borders of grids and terms.
func TestFits(t *testing.T) {
	for days := 1; days <= 7; days++ {
		for slots := 1; slots <= 24; slots++ {
			g := api.Grid{Days: days, Slots: slots, Begin: 0, Minutes: 60}
			for day := -1; day <= 7; day++ {
				for start := -1; start <= 24; start++ {
					for _, length := range []int{-1, 0, 1, 2, slots - start - 1, slots - start, slots - start + 1} {
						want := api.ErrTime
						if 0 <= day && day < days && start >= 0 && length >= 1 && start+length <= slots {
							want = api.OK
						}
						checkFits(t, g, 10, api.Time{Weeks: 1023, Day: day, Start: start, Length: length}, want)
					}
				}
			}
		}
	}
	for weeks := 1; weeks <= 20; weeks++ {
		checkFits(t, grid(), weeks, api.Time{Weeks: 1, Length: 1}, api.OK)
		checkFits(t, grid(), weeks, api.Time{Weeks: 1<<weeks - 1, Length: 1}, api.OK)
		checkFits(t, grid(), weeks, api.Time{Weeks: 1 << weeks, Length: 1}, api.ErrTime)
		checkFits(t, grid(), weeks, api.Time{Weeks: 1<<weeks + 1, Length: 1}, api.ErrTime)
		checkFits(t, grid(), weeks, api.Time{Weeks: 0, Length: 1}, api.ErrTime)
	}
}

// P6.1: ErrInvalid comes first.
func TestFitsErrors(t *testing.T) {
	good := api.Time{Weeks: 1, Length: 1}
	for _, x := range append(unsound(), good) {
		want := api.ErrTime
		if x == good {
			want = api.OK
		}
		checkFits(t, grid(), 20, x, want)
		checkFits(t, wideGrid(), 20, x, want)
		for _, g := range wrongGrids() {
			checkFits(t, g, 20, x, api.ErrInvalid)
		}
		for _, weeks := range wrongWeeks() {
			checkFits(t, wideGrid(), weeks, x, api.ErrInvalid)
			checkFits(t, api.Grid{}, weeks, x, api.ErrInvalid)
		}
	}
}

func checkClock(t *testing.T, g api.Grid, slot, hour, minute int, want api.Errno) {
	t.Helper()
	if h, m, e := Clock(g, slot); h != hour || m != minute || e != want {
		t.Errorf("Clock(%v, %d) = %d, %d, %d; want %d, %d, %d", g, slot, h, m, e, hour, minute, want)
	}
}

// P6.4: some hours, by hand.
func TestClock(t *testing.T) {
	checkClock(t, grid(), 0, 8, 0, api.OK)
	checkClock(t, grid(), 1, 8, 45, api.OK)
	checkClock(t, grid(), 2, 9, 30, api.OK)
	checkClock(t, grid(), 10, 15, 30, api.OK)
	checkClock(t, wideGrid(), 0, 0, 0, api.OK)
	checkClock(t, wideGrid(), 23, 23, 0, api.OK)
	checkClock(t, wideGrid(), 24, 24, 0, api.OK)
	late := api.Grid{Days: 1, Slots: 1, Begin: 1435, Minutes: 5}
	checkClock(t, late, 0, 23, 55, api.OK)
	checkClock(t, late, 1, 24, 0, api.OK)
	checkClock(t, api.Grid{Days: 1, Slots: 1, Begin: 1434, Minutes: 5}, 1, 23, 59, api.OK)
}

// P6.4: every slot of many grids begins where the ones before have ended.
func TestClockSlots(t *testing.T) {
	for slots := 1; slots <= 24; slots++ {
		for minutes := 5; minutes <= 120 && slots*minutes <= 1440; minutes++ {
			for _, begin := range []int{0, 1, 59, 60, 61, 1440 - slots*minutes} {
				g := api.Grid{Days: 5, Slots: slots, Begin: begin, Minutes: minutes}
				if begin+slots*minutes > 1440 || begin > 1439 {
					continue
				}
				hour, minute := 0, 0
				pass := func(minutes int) {
					for minute += minutes; minute >= 60; minute -= 60 {
						hour++
					}
				}
				pass(begin)
				for slot := 0; slot <= slots; slot++ {
					checkClock(t, g, slot, hour, minute, api.OK)
					pass(minutes)
				}
				checkClock(t, g, -1, 0, 0, api.ErrRange)
				checkClock(t, g, slots+1, 0, 0, api.ErrRange)
			}
		}
	}
}

// P6.4: errors and their order.
func TestClockErrors(t *testing.T) {
	for _, slot := range append([]int{-1, 11}, extremes...) {
		checkClock(t, grid(), slot, 0, 0, api.ErrRange)
	}
	for _, g := range wrongGrids() {
		for _, slot := range append([]int{-1, 0, 1, 10, 25}, extremes...) {
			checkClock(t, g, slot, 0, 0, api.ErrInvalid)
		}
	}
}
