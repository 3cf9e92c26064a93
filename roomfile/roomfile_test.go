package roomfile

import (
	"math"
	"slices"
	"strconv"
	"strings"
	"testing"

	"timetable/api"
)

const tenWeeks = 10

func grid() api.Grid { return api.Grid{Days: 5, Slots: 10, Begin: 480, Minutes: 45} }

// room is a room with something in every field.
func room() api.Room {
	return api.Room{Code: "R1", Building: "B", Seats: 30, Features: []string{"beamer", "lab"}, Closed: []api.Time{{Weeks: 341, Start: 0, Length: 2}}}
}

// wrongGrids are not valid, each for one reason.
func wrongGrids() []api.Grid {
	return []api.Grid{
		{},
		{Days: 0, Slots: 10, Begin: 480, Minutes: 45},
		{Days: 8, Slots: 10, Begin: 480, Minutes: 45},
		{Days: 5, Slots: 0, Begin: 480, Minutes: 45},
		{Days: 5, Slots: 25, Begin: 480, Minutes: 5},
		{Days: 5, Slots: 10, Begin: -1, Minutes: 45},
		{Days: 5, Slots: 10, Begin: 480, Minutes: 4},
		{Days: 5, Slots: 10, Begin: 991, Minutes: 45},
		{Days: math.MaxInt, Slots: math.MaxInt, Begin: math.MaxInt, Minutes: math.MaxInt},
	}
}

// wrongWeeks are what no term has as its number of weeks.
func wrongWeeks() []int {
	return []int{math.MinInt, -20, -1, 0, 21, 22, 63, 64, 65, 1 << 32, 1<<32 + 1, math.MaxInt}
}

// texts returns n different codes, or times, in ascending order.
func texts(before string, n int) []string {
	var l []string
	for i := range n {
		l = append(l, before+strconv.Itoa(10+i))
	}
	return l
}

// wrongCodes are no codes.
func wrongCodes() []string {
	return []string{"", "?", "_", "-", "_a", "-a", "a b", " a", "a ", "a;b", "a,b", "a.b", "a\n", "a\x00", "\u00e9", "a\xff", strings.Repeat("a", 17), strings.Repeat("a", 1000)}
}

func equalRooms(a, b api.Room) bool {
	return a.Code == b.Code && a.Building == b.Building && a.Seats == b.Seats && slices.Equal(a.Features, b.Features) && slices.Equal(a.Closed, b.Closed)
}

func checkRooms(t *testing.T, l, want []api.Room) {
	t.Helper()
	if !slices.EqualFunc(l, want, equalRooms) {
		t.Errorf("rooms %v, want %v", l, want)
	}
}

func checkFits(t *testing.T, r api.Room, c api.Class, want bool) {
	t.Helper()
	if Fits(r, c) != want {
		t.Errorf("Fits(%v, %v) = %v", r, c, !want)
	}
}

// P7.4: seats.
func TestFitsSeats(t *testing.T) {
	numbers := []int{math.MinInt, -1, 0, 1, 2, 29, 30, 31, 9999, 10000, 1 << 32, math.MaxInt}
	for i, seats := range numbers {
		for k, needed := range numbers {
			checkFits(t, api.Room{Seats: seats}, api.Class{Seats: needed}, i >= k)
			checkFits(t, api.Room{Seats: seats, Features: []string{"a"}}, api.Class{Seats: needed, Features: []string{"a"}}, i >= k)
			checkFits(t, api.Room{Seats: seats}, api.Class{Seats: needed, Features: []string{"a"}}, false)
		}
	}
}

// P7.4: all sets of features, in ascending and in descending order.
func TestFitsFeatures(t *testing.T) {
	all := []string{"a", "aa", "b", "A"}
	subset := func(n int) []string {
		var l []string
		for i, feature := range all {
			if n>>i&1 == 1 {
				l = append(l, feature)
			}
		}
		return l
	}
	for has := range 1 << len(all) {
		for needs := range 1 << len(all) {
			r, c := api.Room{Seats: 5, Features: subset(has)}, api.Class{Seats: 5, Features: subset(needs)}
			checkFits(t, r, c, needs&^has == 0)
			slices.Reverse(c.Features)
			checkFits(t, r, c, needs&^has == 0)
			slices.Reverse(r.Features)
			checkFits(t, r, c, needs&^has == 0)
		}
	}
	checkFits(t, api.Room{Features: []string{"a"}}, api.Class{Features: []string{"a", "a"}}, true)
	checkFits(t, api.Room{}, api.Class{Features: []string{""}}, false)
	checkFits(t, api.Room{Features: []string{""}}, api.Class{Features: []string{""}}, true)
	checkFits(t, api.Room{Features: []string{}}, api.Class{Features: []string{}}, true)
	checkFits(t, api.Room{}, api.Class{}, true)
}

// P7.4: a class needs nothing else of a room.
func TestFitsOnly(t *testing.T) {
	c := api.Class{Code: "C", Course: "D", Part: "L", Length: 3, Patterns: []int{341}, Seats: 30, Staff: []string{"ada"}, Starts: []api.Start{{Day: 0, Slot: 0}}}
	checkFits(t, room(), c, true)
	checkFits(t, api.Room{Seats: 30}, c, true)
}

func checkOpen(t *testing.T, closed []api.Time, x api.Time, want bool) {
	t.Helper()
	if Open(api.Room{Closed: closed}, x) != want {
		t.Errorf("closed at %v: Open at %v is %v", closed, x, !want)
	}
}

// P7.4: all times of a few slots against one and two times.
func TestOpen(t *testing.T) {
	var times []api.Time
	for _, weeks := range []int{1, 2, 3, 1 << 19} {
		for day := range 2 {
			for start := range 4 {
				for length := 1; start+length <= 4; length++ {
					times = append(times, api.Time{Weeks: weeks, Day: day, Start: start, Length: length})
				}
			}
		}
	}
	shared := func(a, b api.Time) bool {
		return a.Weeks&b.Weeks != 0 && a.Day == b.Day && a.Start < b.Start+b.Length && b.Start < a.Start+a.Length
	}
	other := api.Time{Weeks: 2, Day: 1, Start: 1, Length: 1}
	for _, a := range times {
		for _, b := range times {
			checkOpen(t, []api.Time{a}, b, !shared(a, b))
			checkOpen(t, []api.Time{a, other}, b, !shared(a, b) && !shared(other, b))
			checkOpen(t, []api.Time{other, a}, b, !shared(a, b) && !shared(other, b))
		}
		checkOpen(t, nil, a, true)
		checkOpen(t, []api.Time{}, a, true)
	}
}

// P7.4: times that are not sound overlap nothing.
func TestOpenUnsound(t *testing.T) {
	good := api.Time{Weeks: 1, Length: 24}
	for _, x := range []api.Time{{}, {Weeks: 1}, {Weeks: -1, Length: 1}, {Weeks: 1, Day: 7, Length: 1}, {Weeks: 1, Start: -1, Length: 3}, {Weeks: 1, Length: 25}, {Weeks: 1, Start: math.MaxInt, Length: math.MaxInt}} {
		checkOpen(t, []api.Time{x}, good, true)
		checkOpen(t, []api.Time{good}, x, true)
		checkOpen(t, []api.Time{x}, x, true)
		checkOpen(t, []api.Time{x, good}, good, false)
	}
}
