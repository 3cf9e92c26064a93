package timelists

import (
	"math"
	"slices"
	"strconv"
	"strings"
	"testing"

	"timetable/api"
	"timetable/timegrid"
)

const tenWeeks = 10

func grid() api.Grid { return api.Grid{Days: 5, Slots: 10, Begin: 480, Minutes: 45} }

func TestIsFrame(t *testing.T) {
	for weeks := -3; weeks <= 70; weeks++ {
		if IsFrame(grid(), weeks) != (1 <= weeks && weeks <= 20) {
			t.Errorf("IsFrame of %d weeks", weeks)
		}
		if IsFrame(api.Grid{}, weeks) {
			t.Errorf("IsFrame of no grid and %d weeks", weeks)
		}
	}
	for _, weeks := range []int{math.MinInt, math.MinInt + 1, 1 << 32, 1<<32 + 1, math.MaxInt} {
		if IsFrame(grid(), weeks) {
			t.Errorf("IsFrame of %d weeks", weeks)
		}
	}
	for _, g := range []api.Grid{
		{Days: 8, Slots: 10, Begin: 480, Minutes: 45}, {Days: 5, Slots: 25, Begin: 0, Minutes: 5}, {Days: 5, Slots: 10, Begin: -1, Minutes: 45},
		{Days: 5, Slots: 10, Begin: 480, Minutes: 4}, {Days: 5, Slots: 10, Begin: 991, Minutes: 45}, {Days: math.MaxInt, Slots: math.MaxInt, Begin: math.MaxInt, Minutes: math.MaxInt},
	} {
		if IsFrame(g, tenWeeks) {
			t.Errorf("IsFrame of %v", g)
		}
	}
}

func checkRead(t *testing.T, s string, want []api.Time, e api.Errno) {
	t.Helper()
	if l, err := Read(s, grid(), tenWeeks); !slices.Equal(l, want) || err != e {
		t.Errorf("Read(%.80q) = %v, %d; want %v, %d", s, l, err, want, e)
	}
}

func TestRead(t *testing.T) {
	monday, tuesday := api.Time{Weeks: 1023, Length: 1}, api.Time{Weeks: 341, Day: 1, Start: 2, Length: 3}
	checkRead(t, "", nil, api.OK)
	checkRead(t, "Mo 1", []api.Time{monday}, api.OK)
	checkRead(t, "Mo 1;Tu 3-5 odd", []api.Time{monday, tuesday}, api.OK)
	checkRead(t, "Tu 3-5 odd;Mo 1 all;Tu 3-5 odd", []api.Time{tuesday, monday, tuesday}, api.OK)
	checkRead(t, "Fr 10 1-3,7;Mo 1", []api.Time{{Weeks: 71, Day: 4, Start: 9, Length: 1}, monday}, api.OK)
	if l, e := Read("Mo 1 odd;Mo 1 even", grid(), 1); len(l) > 0 || e != api.ErrEmpty {
		t.Errorf("even weeks of one: %v, %d", l, e)
	}
}

// Where there is no single time, and where a time is wrong, the list is wrong in the same way.
func TestReadErrors(t *testing.T) {
	for _, s := range []string{";", ";;", "Mo 1;", ";Mo 1", "Mo 1;;Tu 1", "Mo 1; Tu 1", "Mo 1 ;Tu 1", " ", "Mo 1,Tu 1", "Mo 1|Tu 1", strings.Repeat(";", 100000)} {
		checkRead(t, s, nil, api.ErrForm)
	}
	for _, s := range []string{"x", " Mo 1", "Mo 1 ", "mo 1", "Mo", "Mo 0", "Mo 1-", "Sa 1", "Mo 2-1", "Mo 11", "Mo 1 x", "Mo 1 11", "Mo 1 0", "Mo 1 2-1", "Mo 1 odd,", "Mo 1\x00", "Mo\n1"} {
		_, e := timegrid.Parse(grid(), tenWeeks, s)
		if e == api.OK {
			t.Errorf("timegrid.Parse(%q) has no error", s)
		}
		for _, list := range []string{s, s + ";Mo 1", "Mo 1;" + s, "Mo 1;" + s + ";", s + ";Sa x"} {
			checkRead(t, list, nil, e)
		}
	}
	checkRead(t, "Sa 1;x", nil, api.ErrTime)
	checkRead(t, "x;Sa 1", nil, api.ErrForm)
	checkRead(t, "Mo 1 99;x", nil, api.ErrRange)
}

// The number of times is looked at behind all of them.
func TestReadSize(t *testing.T) {
	for n := 1; n <= 30; n++ {
		l := slices.Repeat([]string{"Mo 1 odd"}, n)
		if n <= 24 {
			checkRead(t, strings.Join(l, ";"), slices.Repeat([]api.Time{{Weeks: 341, Length: 1}}, n), api.OK)
		} else {
			checkRead(t, strings.Join(l, ";"), nil, api.ErrSize)
		}
		for i := range l {
			wrong := slices.Clone(l)
			wrong[i] = "Mo 11"
			checkRead(t, strings.Join(wrong, ";"), nil, api.ErrTime)
			checkRead(t, strings.Join(wrong, ";")+";", nil, api.ErrTime)
			checkRead(t, ";"+strings.Join(wrong, ";"), nil, api.ErrForm)
		}
	}
}

func TestWrite(t *testing.T) {
	for _, x := range []struct {
		l    []api.Time
		want string
	}{
		{nil, ""},
		{[]api.Time{}, ""},
		{[]api.Time{{Weeks: 1023, Length: 1}}, "Mo 1"},
		{[]api.Time{{Weeks: 341, Day: 4, Start: 9, Length: 1}, {Weeks: 71, Length: 10}, {Weeks: 1023, Day: 1, Start: 2, Length: 3}, {Weeks: 341, Day: 4, Start: 9, Length: 1}}, "Fr 10 odd;Mo 1-10 1-3,7;Tu 3-5;Fr 10 odd"},
	} {
		if s := Write(x.l, grid(), tenWeeks); s != x.want {
			t.Errorf("Write(%v) = %q, want %q", x.l, s, x.want)
		}
		checkRead(t, x.want, x.l, api.OK)
	}
	for weeks := 4; weeks <= 20; weeks++ {
		l := []api.Time{{Weeks: 1<<weeks - 1, Length: 1}, {Weeks: 1 << (weeks - 1), Day: 1, Length: 2}}
		if s := Write(l, grid(), weeks); s != "Mo 1;Tu 1-2 "+strconv.Itoa(weeks) {
			t.Errorf("Write in %d weeks: %q", weeks, s)
		}
	}
}

func TestFit(t *testing.T) {
	good := api.Time{Weeks: 1, Length: 1}
	last := api.Time{Weeks: 1023, Day: 4, Start: 9, Length: 1}
	for n := range 30 {
		if !Fit(slices.Repeat([]api.Time{good, last}, n), grid(), tenWeeks) {
			t.Errorf("%d times do not fit", 2*n)
		}
	}
	for _, x := range []api.Time{
		{}, {Weeks: 0, Length: 1}, {Weeks: -1, Length: 1}, {Weeks: 1024, Length: 1}, {Weeks: 1, Day: -1, Length: 1}, {Weeks: 1, Day: 5, Length: 1},
		{Weeks: 1, Start: -1, Length: 1}, {Weeks: 1, Start: 10, Length: 1}, {Weeks: 1, Start: 9, Length: 2}, {Weeks: 1, Length: 11}, {Weeks: 1, Length: 0},
		{Weeks: 1, Start: math.MaxInt, Length: math.MaxInt},
	} {
		for _, l := range [][]api.Time{{x}, {good, x}, {x, good}, {last, x, good}, {x, x}} {
			if Fit(l, grid(), tenWeeks) {
				t.Errorf("%v fit", l)
			}
		}
	}
	if Fit([]api.Time{good}, api.Grid{}, tenWeeks) || Fit([]api.Time{good}, grid(), 0) || Fit([]api.Time{{Weeks: 2, Length: 1}}, grid(), 1) {
		t.Error("times fit another grid or number of weeks")
	}
}

func checkOverlap(t *testing.T, l []api.Time, other api.Time, want bool) {
	t.Helper()
	if Overlap(l, other) != want {
		t.Errorf("Overlap(%v, %v) = %v", l, other, !want)
	}
}

// All times of a few slots against lists of one and two.
func TestOverlap(t *testing.T) {
	var times []api.Time
	for _, weeks := range []int{1, 2, 3, 1 << 19} {
		for day := range 2 {
			for start := range 4 {
				for length := 1; start+length <= 4; length++ {
					times = append(times, api.Time{Weeks: weeks, Day: day, Start: start, Length: length})
				}
			}
		}
	}
	shared := func(a, b api.Time) bool {
		return a.Weeks&b.Weeks != 0 && a.Day == b.Day && a.Start < b.Start+b.Length && b.Start < a.Start+a.Length
	}
	other := api.Time{Weeks: 2, Day: 1, Start: 1, Length: 1}
	for _, a := range times {
		checkOverlap(t, nil, a, false)
		for _, b := range times {
			checkOverlap(t, []api.Time{a}, b, shared(a, b))
			checkOverlap(t, []api.Time{a, other}, b, shared(a, b) || shared(other, b))
			checkOverlap(t, []api.Time{other, a}, b, shared(a, b) || shared(other, b))
			checkOverlap(t, []api.Time{{}, a, {}}, b, shared(a, b))
		}
		checkOverlap(t, []api.Time{a}, api.Time{}, false)
	}
}
