package stafffile

import (
	"math"
	"slices"
	"strconv"
	"strings"
	"testing"

	"timetable/api"
)

const tenWeeks = 10

func grid() api.Grid { return api.Grid{Days: 5, Slots: 10, Begin: 480, Minutes: 45} }

// wrongGrids are not valid, each for one reason.
func wrongGrids() []api.Grid {
	return []api.Grid{
		{},
		{Days: 0, Slots: 10, Begin: 480, Minutes: 45},
		{Days: 8, Slots: 10, Begin: 480, Minutes: 45},
		{Days: 5, Slots: 0, Begin: 480, Minutes: 45},
		{Days: 5, Slots: 25, Begin: 480, Minutes: 5},
		{Days: 5, Slots: 10, Begin: -1, Minutes: 45},
		{Days: 5, Slots: 10, Begin: 480, Minutes: 4},
		{Days: 5, Slots: 10, Begin: 991, Minutes: 45},
		{Days: math.MaxInt, Slots: math.MaxInt, Begin: math.MaxInt, Minutes: math.MaxInt},
	}
}

// wrongWeeks are what no term has as its number of weeks.
func wrongWeeks() []int {
	return []int{math.MinInt, -20, -1, 0, 21, 22, 63, 64, 65, 1 << 32, 1<<32 + 1, math.MaxInt}
}

// rightCodes and wrongCodes are codes, and texts that are none.
func rightCodes() []string {
	return []string{"a", "Z", "9", "a_", "a-", "0-_", strings.Repeat("a", 16)}
}

func wrongCodes() []string {
	return []string{"", "?", "_", "-", "_a", "-a", "a b", " a", "a ", "a;b", "a..b", "a,b", "a.b", "a\n", "a\x00", "\u00e9", "a\xff", strings.Repeat("a", 17), strings.Repeat("a", 1000)}
}

// wrongTimes do not fit.
func wrongTimes() []api.Time {
	return []api.Time{
		{}, {Weeks: 0, Length: 1}, {Weeks: -1, Length: 1}, {Weeks: 1024, Length: 1}, {Weeks: 1, Day: -1, Length: 1}, {Weeks: 1, Day: 5, Length: 1},
		{Weeks: 1, Start: -1, Length: 1}, {Weeks: 1, Start: 10, Length: 1}, {Weeks: 1, Start: 9, Length: 2}, {Weeks: 1, Length: 11}, {Weeks: 1, Length: 0}, {Weeks: 1, Length: -1},
		{Weeks: 1, Start: math.MaxInt, Length: math.MaxInt},
	}
}

// ada is a lecturer who is away twice.
func ada() api.Lecturer {
	return api.Lecturer{Code: "ada", Away: []api.Time{{Weeks: 1023, Day: 2, Length: 4}, {Weeks: 341, Day: 4, Start: 9, Length: 1}}}
}

// named returns lecturers who are always there.
func named(codes ...string) []api.Lecturer {
	var l []api.Lecturer
	for _, code := range codes {
		l = append(l, api.Lecturer{Code: code})
	}
	return l
}

// numbered returns n different codes.
func numbered(n int) []string {
	var l []string
	for i := range n {
		l = append(l, "s"+strconv.Itoa(i))
	}
	return l
}

func equalLecturers(a, b api.Lecturer) bool {
	return a.Code == b.Code && slices.Equal(a.Away, b.Away)
}

func checkLecturers(t *testing.T, l, want []api.Lecturer) {
	t.Helper()
	if !slices.EqualFunc(l, want, equalLecturers) {
		t.Errorf("lecturers %v, want %v", l, want)
	}
}

func checkFree(t *testing.T, away []api.Time, x api.Time, want bool) {
	t.Helper()
	l := api.Lecturer{Code: "a", Away: away}
	if Free(l, x) != want {
		t.Errorf("away at %v: Free at %v is %v", away, x, !want)
	}
}

// P9.3: times around one at which a lecturer is away.
func TestFree(t *testing.T) {
	away := api.Time{Weeks: 6, Day: 2, Start: 3, Length: 3}
	other := api.Time{Weeks: 1 << 19, Day: 6, Start: 23, Length: 1}
	for weeks := 1; weeks < 16; weeks++ {
		for day := range 7 {
			for start := range 9 {
				for length := 1; length <= 5; length++ {
					x := api.Time{Weeks: weeks, Day: day, Start: start, Length: length}
					want := weeks&6 == 0 || day != 2 || start >= 6 || start+length <= 3
					checkFree(t, []api.Time{away}, x, want)
					checkFree(t, []api.Time{away, other}, x, want)
					checkFree(t, []api.Time{other, away}, x, want)
					checkFree(t, []api.Time{other, away, away, other}, x, want)
					checkFree(t, []api.Time{other}, x, true)
					checkFree(t, []api.Time{}, x, true)
					checkFree(t, nil, x, true)
				}
			}
		}
	}
	checkFree(t, []api.Time{away, other}, other, false)
	checkFree(t, []api.Time{away, other}, away, false)
}

// P9.3: times that are not sound overlap nothing, and the code does not matter.
func TestFreeUnsound(t *testing.T) {
	good := api.Time{Weeks: 1, Length: 24}
	for _, x := range []api.Time{{}, {Weeks: 1}, {Weeks: -1, Length: 1}, {Weeks: 1, Day: 7, Length: 1}, {Weeks: 1, Start: -1, Length: 3}, {Weeks: 1, Length: 25}, {Weeks: 1, Start: math.MaxInt, Length: math.MaxInt}} {
		checkFree(t, []api.Time{x}, good, true)
		checkFree(t, []api.Time{good}, x, true)
		checkFree(t, []api.Time{x}, x, true)
		checkFree(t, []api.Time{x, good}, good, false)
	}
	for _, code := range wrongCodes() {
		l := api.Lecturer{Code: code, Away: []api.Time{good}}
		if Free(l, good) || !Free(l, api.Time{Weeks: 2, Length: 24}) {
			t.Errorf("Free of %q", code)
		}
	}
	many := slices.Repeat([]api.Time{{Weeks: 1, Length: 1}}, 100)
	checkFree(t, append(many, good), api.Time{Weeks: 1, Start: 5, Length: 1}, false)
}
