package coursefile

import (
	"math"
	"slices"
	"strconv"
	"strings"
	"testing"

	"timetable/api"
)

const tenWeeks = 10

func grid() api.Grid { return api.Grid{Days: 5, Slots: 10, Begin: 480, Minutes: 45} }

// class is a class with something in every field.
func class() api.Class {
	return api.Class{
		Code: "L1", Course: "MA", Part: "lec", Length: 2, Patterns: []int{341, 682}, Seats: 25,
		Features: []string{"beamer", "lab"}, Staff: []string{"ada", "bob"}, Starts: []api.Start{{Day: 0, Slot: 2}, {Day: 1, Slot: 2}},
	}
}

// small is a class with as little as possible.
func small(code string) api.Class {
	return api.Class{Code: code, Course: "C", Part: "p", Length: 1, Patterns: []int{1023}}
}

// wrongGrids are not valid, each for one reason.
func wrongGrids() []api.Grid {
	return []api.Grid{
		{},
		{Days: 0, Slots: 10, Begin: 480, Minutes: 45},
		{Days: 8, Slots: 10, Begin: 480, Minutes: 45},
		{Days: 5, Slots: 0, Begin: 480, Minutes: 45},
		{Days: 5, Slots: 25, Begin: 480, Minutes: 5},
		{Days: 5, Slots: 10, Begin: -1, Minutes: 45},
		{Days: 5, Slots: 10, Begin: 480, Minutes: 4},
		{Days: 5, Slots: 10, Begin: 991, Minutes: 45},
		{Days: math.MaxInt, Slots: math.MaxInt, Begin: math.MaxInt, Minutes: math.MaxInt},
	}
}

// wrongWeeks are what no term has as its number of weeks.
func wrongWeeks() []int {
	return []int{math.MinInt, -20, -1, 0, 21, 22, 63, 64, 65, 1 << 32, 1<<32 + 1, math.MaxInt}
}

// texts returns n different codes in ascending order.
func texts(before string, n int) []string {
	var l []string
	for i := range n {
		l = append(l, before+strconv.Itoa(10+i))
	}
	return l
}

// starts returns the first n starts of a class with one slot.
func starts(n int) []api.Start {
	var l []api.Start
	for i := range n {
		l = append(l, api.Start{Day: i / 10, Slot: i % 10})
	}
	return l
}

// rightCodes and wrongCodes are codes, and texts that are none.
func rightCodes() []string {
	return []string{"a", "Z", "9", "a_", "a-", "0-_", "a1", strings.Repeat("a", 16)}
}

func wrongCodes() []string {
	return []string{"", "?", "_", "-", "_a", "-a", "a b", " a", "a ", "a;b", "a..b", "a,b", "a.b", "a/b", "a\n", "a\x00", "\u00e9", "a\xff", strings.Repeat("a", 17), strings.Repeat("a", 1000)}
}

func equalClasses(a, b api.Class) bool {
	return a.Code == b.Code && a.Course == b.Course && a.Part == b.Part && a.Length == b.Length && slices.Equal(a.Patterns, b.Patterns) && a.Seats == b.Seats &&
		slices.Equal(a.Features, b.Features) && slices.Equal(a.Staff, b.Staff) && slices.Equal(a.Starts, b.Starts)
}

func checkClasses(t *testing.T, l, want []api.Class) {
	t.Helper()
	if !slices.EqualFunc(l, want, equalClasses) {
		t.Errorf("classes %v, want %v", l, want)
	}
}

// P10.3: only Course and Part matter, and they are compared bytewise.
func TestParallel(t *testing.T) {
	names := []string{"", "a", "A", "b", "ab", "a1", "a01", "a\x00", "\xff"}
	for _, course := range names {
		for _, part := range names {
			a := api.Class{Course: course, Part: part}
			for _, c := range names {
				for _, p := range names {
					b := class()
					b.Course, b.Part = c, p
					want := course == c && part == p
					if Parallel(a, b) != want || Parallel(b, a) != want {
						t.Errorf("Parallel of %q %q and %q %q is not %v", course, part, c, p, want)
					}
				}
			}
		}
	}
	other := class()
	other.Code, other.Course, other.Part = class().Code, "MB", "lec"
	if !Parallel(class(), class()) || Parallel(class(), other) || !Parallel(api.Class{}, api.Class{Code: "x"}) {
		t.Error("Parallel")
	}
}
