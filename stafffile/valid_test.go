package stafffile

import (
	"slices"
	"testing"

	"timetable/api"
)

func checkValid(t *testing.T, l []api.Lecturer, want api.Errno) {
	t.Helper()
	if e := Valid(l, grid(), tenWeeks); e != want {
		t.Errorf("Valid(%v) = %d, want %d", l, e, want)
	}
	if w, e := Write(l, grid(), tenWeeks); e != want || e != api.OK && len(w) > 0 {
		t.Errorf("Write(%v) = %v, %d, want the error %d", l, w, e, want)
	}
}

// checkAway checks the error of lists in which a lecturer with such times stands among others.
func checkAway(t *testing.T, away []api.Time, want api.Errno) {
	t.Helper()
	x := api.Lecturer{Code: "x", Away: away}
	checkValid(t, []api.Lecturer{x}, want)
	checkValid(t, []api.Lecturer{ada(), x}, want)
	checkValid(t, []api.Lecturer{x, ada()}, want)
}

// P9.1, P9.3: the grid and the number of weeks come first.
func TestValidFrame(t *testing.T) {
	check := func(l []api.Lecturer, g api.Grid, weeks int) {
		t.Helper()
		if e := Valid(l, g, weeks); e != api.ErrInvalid {
			t.Errorf("Valid in %v, %d weeks: %d", g, weeks, e)
		}
		if w, e := Write(l, g, weeks); len(w) > 0 || e != api.ErrInvalid {
			t.Errorf("Write in %v, %d weeks: %v, %d", g, weeks, w, e)
		}
	}
	for _, l := range [][]api.Lecturer{nil, {}, {ada()}, {{Code: "?"}}, {{Away: []api.Time{{}}}}, make([]api.Lecturer, 33)} {
		for _, g := range wrongGrids() {
			check(l, g, tenWeeks)
			check(l, g, 0)
		}
		for _, weeks := range wrongWeeks() {
			check(l, grid(), weeks)
		}
	}
	for weeks := 1; weeks <= 20; weeks++ {
		x := api.Lecturer{Code: "x", Away: []api.Time{{Weeks: 1<<weeks - 1, Length: 1}}}
		if e := Valid([]api.Lecturer{x}, grid(), weeks); e != api.OK {
			t.Errorf("Valid in %d weeks: %d", weeks, e)
		}
		x.Away[0].Weeks = 1 << weeks
		if e := Valid([]api.Lecturer{x}, grid(), weeks); e != api.ErrTime {
			t.Errorf("a time in the week %d of %d: %d", weeks+1, weeks, e)
		}
	}
}

// P9.1: the number of lecturers.
func TestValidStaff(t *testing.T) {
	for n := range 40 {
		want := api.OK
		if n > 32 {
			want = api.ErrSize
		}
		checkValid(t, named(numbered(n)...), want)
	}
	checkValid(t, make([]api.Lecturer, 33), api.ErrSize)
	checkValid(t, make([]api.Lecturer, 32), api.ErrCode)
	checkValid(t, slices.Repeat(named("a"), 33), api.ErrSize)
	checkValid(t, slices.Repeat(named("a"), 32), api.ErrDuplicate)
	checkValid(t, named(append(numbered(32), "?")...), api.ErrSize)
}

// P9.1: what is a code, and what is none.
func TestValidCodes(t *testing.T) {
	for _, code := range rightCodes() {
		checkValid(t, named(code), api.OK)
		checkValid(t, named(code, "other"), api.OK)
	}
	for _, code := range wrongCodes() {
		checkValid(t, named(code), api.ErrCode)
		checkValid(t, named("other", code), api.ErrCode)
		checkValid(t, named(code, code), api.ErrCode)
	}
}

// P9.1: times fit the grid; they may be in any order, and equal.
func TestValidAway(t *testing.T) {
	good := api.Time{Weeks: 1, Length: 1}
	for n := range 30 {
		want := api.OK
		if n > 24 {
			want = api.ErrSize
		}
		checkAway(t, slices.Repeat([]api.Time{good}, n), want)
	}
	checkAway(t, make([]api.Time, 24), api.ErrTime)
	checkAway(t, make([]api.Time, 25), api.ErrSize)
	for _, x := range []api.Time{{Weeks: 1023, Length: 10}, {Weeks: 512, Day: 4, Start: 9, Length: 1}, {Weeks: 341, Day: 2, Start: 3, Length: 2}} {
		checkAway(t, []api.Time{x}, api.OK)
		checkAway(t, []api.Time{x, good, x}, api.OK)
		checkAway(t, []api.Time{good, x}, api.OK)
	}
	for _, x := range wrongTimes() {
		checkAway(t, []api.Time{x}, api.ErrTime)
		checkAway(t, []api.Time{good, x}, api.ErrTime)
		checkAway(t, []api.Time{x, good}, api.ErrTime)
		checkAway(t, append(slices.Repeat([]api.Time{good}, 23), x), api.ErrTime)
		checkAway(t, append(slices.Repeat([]api.Time{good}, 24), x), api.ErrSize)
	}
}

// P9.1: codes are different.
func TestValidDuplicate(t *testing.T) {
	checkValid(t, named("ada", "Ada", "ada1", "ada01", "ad", "a"), api.OK)
	checkValid(t, named("a", "a"), api.ErrDuplicate)
	checkValid(t, named("a", "b", "a"), api.ErrDuplicate)
	checkValid(t, named("a", "b", "c", "c"), api.ErrDuplicate)
	checkValid(t, append(named("ada"), ada()), api.ErrDuplicate)
	checkValid(t, []api.Lecturer{{Code: "a", Away: ada().Away}, {Code: "b", Away: ada().Away}}, api.OK)
}

// P9.1: all sets of errors of one lecturer; the first one decides.
func TestValidOrder(t *testing.T) {
	faults := []struct {
		e    api.Errno
		harm func(x, earlier *api.Lecturer)
	}{
		{api.ErrCode, func(x, earlier *api.Lecturer) { x.Code = "?" }},
		{api.ErrSize, func(x, earlier *api.Lecturer) { x.Away = slices.Repeat(x.Away, 13) }},
		{api.ErrTime, func(x, earlier *api.Lecturer) { x.Away[1].Length = 0 }},
		{api.ErrDuplicate, func(x, earlier *api.Lecturer) { earlier.Code = x.Code }},
	}
	for set := 1; set < 1<<len(faults); set++ {
		x, earlier, want := ada(), api.Lecturer{Code: "x"}, api.OK
		for i, f := range slices.Backward(faults) {
			if set>>i&1 == 1 {
				f.harm(&x, &earlier)
				want = f.e
			}
		}
		checkValid(t, []api.Lecturer{earlier, x}, want)
	}
}

// P9.1: of two lecturers the first one with an error decides.
func TestValidFirst(t *testing.T) {
	wrong := []struct {
		x api.Lecturer
		e api.Errno
	}{
		{api.Lecturer{Code: "?"}, api.ErrCode},
		{api.Lecturer{Code: "x", Away: make([]api.Time, 25)}, api.ErrSize},
		{api.Lecturer{Code: "x", Away: make([]api.Time, 1)}, api.ErrTime},
		{api.Lecturer{Code: "a"}, api.ErrDuplicate},
	}
	for _, first := range wrong {
		for _, second := range wrong {
			checkValid(t, []api.Lecturer{{Code: "a"}, first.x, {Code: "b"}, second.x}, first.e)
		}
	}
}
