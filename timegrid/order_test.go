package timegrid

import (
	"testing"

	"timetable/api"
)

// gap returns what P6.2 says of two sound times that meet, slot by slot.
func gap(a, b api.Time) int {
	var inA, inB [24]bool
	for i := range a.Length {
		inA[a.Start+i] = true
	}
	for i := range b.Length {
		inB[b.Start+i] = true
	}
	last, n := "", 0 // whose slot came last, and how many of nobody since
	for i := range inA {
		switch {
		case inA[i] && inB[i]:
			return -1
		case inA[i]:
			if last == "b" {
				return n
			}
			last, n = "a", 0
		case inB[i]:
			if last == "a" {
				return n
			}
			last, n = "b", 0
		default:
			n++
		}
	}
	panic("there is but one time")
}

// checkPlaces checks Between, Overlap and Before of two times.
func checkPlaces(t *testing.T, a, b api.Time, slots int, meet, before bool) {
	t.Helper()
	if n, ok := Between(a, b); n != slots || ok != meet {
		t.Errorf("Between(%v, %v) = %d, %v; want %d, %v", a, b, n, ok, slots, meet)
	}
	if want := meet && slots == -1; Overlap(a, b) != want {
		t.Errorf("Overlap(%v, %v) = %v", a, b, !want)
	}
	if Before(a, b) != before {
		t.Errorf("Before(%v, %v) = %v", a, b, !before)
	}
}

// stretches returns the times of all starts and lengths on a day.
func stretches(weeks, day int) []api.Time {
	var l []api.Time
	for start := range 24 {
		for length := 1; start+length <= 24; length++ {
			l = append(l, api.Time{Weeks: weeks, Day: day, Start: start, Length: length})
		}
	}
	return l
}

// P6.2 and the consequences: some places, both ways round.
func TestPlaces(t *testing.T) {
	at := func(weeks, day, start, length int) api.Time {
		return api.Time{Weeks: weeks, Day: day, Start: start, Length: length}
	}
	for _, x := range []struct {
		a, b   api.Time
		slots  int
		meet   bool
		ab, ba bool
	}{
		{at(1, 0, 2, 2), at(1, 0, 2, 2), -1, true, false, false},
		{at(1, 0, 2, 2), at(1, 0, 3, 2), -1, true, false, false},
		{at(1, 0, 0, 24), at(1, 0, 9, 1), -1, true, false, false},
		{at(1, 0, 2, 2), at(1, 0, 4, 2), 0, true, true, false},
		{at(1, 0, 2, 2), at(1, 0, 5, 2), 1, true, true, false},
		{at(1, 6, 0, 1), at(1, 6, 23, 1), 22, true, true, false},
		{at(1, 0, 2, 2), at(1, 1, 2, 2), 0, false, true, false},
		{at(1, 0, 20, 4), at(1, 6, 0, 1), 0, false, true, false},
		{at(0b0101, 0, 2, 2), at(0b1010, 0, 2, 2), 0, false, false, false},
		{at(0b0101, 0, 2, 2), at(0b1010, 0, 4, 2), 0, false, true, false},
		{at(0b0101, 0, 2, 2), at(0b1010, 1, 2, 2), 0, false, true, false},
		{at(0b0101, 0, 2, 2), at(0b1110, 0, 3, 2), -1, true, false, false},
		{at(1<<19, 0, 2, 2), at(1<<20-1, 0, 3, 2), -1, true, false, false},
		{at(1<<19, 0, 2, 2), at(1<<19-1, 0, 3, 2), 0, false, false, false},
	} {
		checkPlaces(t, x.a, x.b, x.slots, x.meet, x.ab)
		checkPlaces(t, x.b, x.a, x.slots, x.meet, x.ba)
	}
}

// P6.2: all starts and lengths on one day and on two days.
func TestAllPlaces(t *testing.T) {
	for _, a := range stretches(0b0110, 3) {
		for _, b := range stretches(0b0011, 3) {
			earlier := a.Start+a.Length <= b.Start
			checkPlaces(t, a, b, gap(a, b), true, earlier)
			b.Weeks = 0b1001
			checkPlaces(t, a, b, 0, false, earlier)
			for _, weeks := range []int{0b0011, 0b1001} {
				b.Weeks, b.Day = weeks, 4
				checkPlaces(t, a, b, 0, false, true)
				b.Day = 2
				checkPlaces(t, a, b, 0, false, false)
			}
		}
	}
}

// P6.2: all pairs of days, and all pairs of single weeks.
func TestDaysAndWeeks(t *testing.T) {
	for i := range 7 {
		for k := range 7 {
			a, b := api.Time{Weeks: 1, Day: i, Start: 4, Length: 2}, api.Time{Weeks: 1, Day: k, Start: 3, Length: 1}
			if i != k {
				checkPlaces(t, a, b, 0, false, i < k)
				checkPlaces(t, b, a, 0, false, k < i)
			} else {
				checkPlaces(t, a, b, 0, true, false)
				checkPlaces(t, b, a, 0, true, true)
			}
		}
	}
	for i := range 20 {
		for k := range 20 {
			a, b := api.Time{Weeks: 1 << i, Start: 4, Length: 2}, api.Time{Weeks: 1 << k, Start: 6, Length: 1}
			checkPlaces(t, a, b, 0, i == k, true)
			b.Start = 5
			if i == k {
				checkPlaces(t, a, b, -1, true, false)
			} else {
				checkPlaces(t, a, b, 0, false, false)
			}
		}
	}
}

// P6.2: times that are not sound, with themselves, with each other and with sound ones.
func TestUnsoundPlaces(t *testing.T) {
	sound := []api.Time{{Weeks: 1<<20 - 1, Day: 0, Start: 0, Length: 24}, {Weeks: 1, Day: 0, Start: 0, Length: 1}, {Weeks: 1, Day: 3, Start: 9, Length: 2}, {Weeks: 1, Day: 6, Start: 23, Length: 1}}
	l := unsound()
	for _, a := range l {
		for _, b := range append(sound, l...) {
			checkPlaces(t, a, b, 0, false, false)
			checkPlaces(t, b, a, 0, false, false)
		}
	}
}
