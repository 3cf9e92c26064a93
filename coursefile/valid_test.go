package coursefile

import (
	"math"
	"slices"
	"strconv"
	"strings"
	"testing"

	"timetable/api"
)

func checkValid(t *testing.T, l []api.Class, want api.Errno) {
	t.Helper()
	if e := Valid(l, grid(), tenWeeks); e != want {
		t.Errorf("Valid(%v) = %d, want %d", l, e, want)
	}
	if w, e := Write(l, grid(), tenWeeks); e != want || e != api.OK && len(w) > 0 {
		t.Errorf("Write(%v) = %v, %d, want the error %d", l, w, e, want)
	}
}

// checkClass checks the error of the usual class with a change.
func checkClass(t *testing.T, want api.Errno, change func(c *api.Class)) {
	t.Helper()
	c := class()
	change(&c)
	checkValid(t, []api.Class{c}, want)
}

// many returns n classes with different codes.
func many(n int) []api.Class {
	var l []api.Class
	for _, code := range texts("L", n) {
		c := class()
		c.Code = code
		l = append(l, c)
	}
	return l
}

// P10.1, P10.3: the grid and the number of weeks come first.
func TestValidFrame(t *testing.T) {
	for _, l := range [][]api.Class{nil, {}, {class()}, {{}}, make([]api.Class, 25)} {
		for _, g := range wrongGrids() {
			if e := Valid(l, g, tenWeeks); e != api.ErrInvalid {
				t.Errorf("Valid in %v: %d", g, e)
			}
			if w, e := Write(l, g, tenWeeks); len(w) > 0 || e != api.ErrInvalid {
				t.Errorf("Write in %v: %v, %d", g, w, e)
			}
		}
		for _, weeks := range wrongWeeks() {
			if e := Valid(l, grid(), weeks); e != api.ErrInvalid {
				t.Errorf("Valid in %d weeks: %d", weeks, e)
			}
			if w, e := Write(l, grid(), weeks); len(w) > 0 || e != api.ErrInvalid {
				t.Errorf("Write in %d weeks: %v, %d", weeks, w, e)
			}
		}
	}
}

// P10.1: the number of classes.
func TestValidClasses(t *testing.T) {
	for n := range 30 {
		want := api.OK
		if n > 24 {
			want = api.ErrSize
		}
		checkValid(t, many(n), want)
	}
	checkValid(t, []api.Class{}, api.OK)
	checkValid(t, make([]api.Class, 25), api.ErrSize)
	checkValid(t, make([]api.Class, 24), api.ErrCode)
	checkValid(t, slices.Repeat([]api.Class{class()}, 25), api.ErrSize)
	checkValid(t, slices.Repeat([]api.Class{class()}, 24), api.ErrDuplicate)
}

// P10.1: what is a code, and what is none.
func TestValidCodes(t *testing.T) {
	for _, s := range rightCodes() {
		checkClass(t, api.OK, func(c *api.Class) { c.Code = s })
		checkClass(t, api.OK, func(c *api.Class) { c.Course = s })
		checkClass(t, api.OK, func(c *api.Class) { c.Part = s })
		checkClass(t, api.OK, func(c *api.Class) { c.Code, c.Course, c.Part = s, s, s })
		checkClass(t, api.OK, func(c *api.Class) { c.Features, c.Staff = []string{s}, []string{s} })
	}
	for _, s := range wrongCodes() {
		checkClass(t, api.ErrCode, func(c *api.Class) { c.Code = s })
		checkClass(t, api.ErrCode, func(c *api.Class) { c.Course = s })
		checkClass(t, api.ErrCode, func(c *api.Class) { c.Part = s })
	}
}

// P10.1: numbers of slots, in every grid.
func TestValidLength(t *testing.T) {
	for slots := 1; slots <= 24; slots++ {
		g := api.Grid{Days: 1, Slots: slots, Minutes: 5}
		for _, n := range []int{math.MinInt, -1, 0, 1, slots - 1, slots, slots + 1, 24, 25, 1<<32 + 1, math.MaxInt} {
			c := small("c")
			c.Length = n
			want := api.OK
			if n < 1 || n > slots {
				want = api.ErrRange
			}
			if e := Valid([]api.Class{c}, g, tenWeeks); e != want {
				t.Errorf("%d of %d slots: %d", n, slots, e)
			}
		}
	}
}

// P10.1: sets of weeks, of which there are 1 to MaxPatterns different ones.
func TestValidPatterns(t *testing.T) {
	for n := range 12 {
		l := []int{1023, 1, 2, 3, 341, 682, 1022, 512, 4, 5, 6, 7}[:n]
		want := api.OK
		if n == 0 {
			want = api.ErrEmpty
		} else if n > 8 {
			want = api.ErrSize
		}
		checkClass(t, want, func(c *api.Class) { c.Patterns = l })
		slices.Reverse(l)
		checkClass(t, want, func(c *api.Class) { c.Patterns = l })
		for i := range min(n, 8) {
			for k := range i {
				equal := slices.Clone(l[:min(n, 8)])
				equal[i] = equal[k]
				checkClass(t, api.ErrInvalid, func(c *api.Class) { c.Patterns = equal })
			}
		}
	}
	for _, set := range []int{math.MinInt, -1, 0, 1024, 1025, 2047, 1<<20 - 1, 1 << 32, 1<<32 + 1, math.MaxInt} {
		checkClass(t, api.ErrInvalid, func(c *api.Class) { c.Patterns = []int{set} })
		checkClass(t, api.ErrInvalid, func(c *api.Class) { c.Patterns = []int{1, set} })
		checkClass(t, api.ErrInvalid, func(c *api.Class) { c.Patterns = []int{set, 1} })
		checkClass(t, api.ErrSize, func(c *api.Class) { c.Patterns = []int{set, 1, 2, 3, 4, 5, 6, 7, 8} })
	}
	for weeks := 1; weeks <= 20; weeks++ {
		c := small("c")
		c.Patterns = []int{1<<weeks - 1}
		if e := Valid([]api.Class{c}, grid(), weeks); e != api.OK {
			t.Errorf("Valid in %d weeks: %d", weeks, e)
		}
		c.Patterns = []int{1 << weeks}
		if e := Valid([]api.Class{c}, grid(), weeks); e != api.ErrInvalid {
			t.Errorf("the week %d of %d: %d", weeks+1, weeks, e)
		}
	}
}

// P10.1: numbers of seats.
func TestValidSeats(t *testing.T) {
	for _, seats := range []int{0, 1, 2, 9998, 9999} {
		checkClass(t, api.OK, func(c *api.Class) { c.Seats = seats })
	}
	for _, seats := range []int{math.MinInt, -1, 10000, 10001, 1 << 32, 1<<32 + 1, math.MaxInt} {
		checkClass(t, api.ErrRange, func(c *api.Class) { c.Seats = seats })
	}
}

// P10.1: features and staff are codes that ascend bytewise.
func TestValidLists(t *testing.T) {
	checkBoth := func(want api.Errno, l []string) {
		t.Helper()
		checkClass(t, want, func(c *api.Class) { c.Features = l })
		checkClass(t, want, func(c *api.Class) { c.Staff = l })
		checkClass(t, want, func(c *api.Class) { c.Features, c.Staff = l, l })
	}
	for n := range 12 {
		want := api.OK
		if n > 8 {
			want = api.ErrSize
		}
		checkBoth(want, texts("f", n))
	}
	checkBoth(api.ErrSize, make([]string, 9))
	for s, want := range map[string]api.Errno{
		"a;b": api.OK, "B;a": api.OK, "a10;a9": api.OK, "a09;a9": api.OK, "a;a-;a0;aA;a_;aa": api.OK, "9;A": api.OK, "a;b;c;d;e;f;g;h": api.OK,
		"b;a": api.ErrCode, "a;a": api.ErrCode, "a;b;b": api.ErrCode, "a;c;b": api.ErrCode, "b;c;a": api.ErrCode, "a;B": api.ErrCode, "a9;a10": api.ErrCode, "a;b;c;d;e;f;h;g": api.ErrCode,
	} {
		checkBoth(want, strings.Split(s, ";"))
	}
	for _, s := range wrongCodes() {
		checkBoth(api.ErrCode, []string{s})
		checkBoth(api.ErrCode, []string{"A", s})
		checkBoth(api.ErrCode, []string{s, "z"})
	}
	checkClass(t, api.ErrSize, func(c *api.Class) { c.Features, c.Staff = []string{"?"}, texts("s", 9) })
}

// P10.1: starts ascend, and the class fits behind each of them.
func TestValidStarts(t *testing.T) {
	for n := range 30 {
		want := api.OK
		if n > 24 {
			want = api.ErrSize
		}
		checkClass(t, want, func(c *api.Class) { c.Length, c.Starts = 1, starts(n) })
	}
	checkClass(t, api.ErrSize, func(c *api.Class) { c.Starts = make([]api.Start, 25) })
	for length := 1; length <= 10; length++ {
		for day := -2; day <= 8; day++ {
			for slot := -2; slot <= 26; slot++ {
				want := api.OK
				if day < 0 || day > 4 || slot < 0 || slot > 10-length {
					want = api.ErrTime
				}
				s := api.Start{Day: day, Slot: slot}
				checkClass(t, want, func(c *api.Class) { c.Length, c.Starts = length, []api.Start{s} })
			}
		}
	}
	numbers := []int{math.MinInt, math.MinInt + 1, -1 << 32, 1 << 32, 1<<32 + 1, math.MaxInt - 1, math.MaxInt}
	for _, n := range numbers {
		checkClass(t, api.ErrTime, func(c *api.Class) { c.Starts = []api.Start{{Day: n}} })
		checkClass(t, api.ErrTime, func(c *api.Class) { c.Starts = []api.Start{{Slot: n}} })
		checkClass(t, api.ErrTime, func(c *api.Class) { c.Starts = []api.Start{{Day: n, Slot: n}} })
	}
	for _, a := range starts(50) {
		for _, b := range starts(50) {
			want := api.ErrTime
			if a.Day < b.Day || a.Day == b.Day && a.Slot < b.Slot {
				want = api.OK
			}
			checkClass(t, want, func(c *api.Class) { c.Length, c.Starts = 1, []api.Start{a, b} })
		}
	}
	checkClass(t, api.ErrTime, func(c *api.Class) { c.Starts = []api.Start{{Slot: 1}, {Slot: 3}, {Slot: 2}} })
	checkClass(t, api.ErrTime, func(c *api.Class) { c.Starts = []api.Start{{Slot: 2}, {Slot: 1}, {Slot: 3}} })
	checkClass(t, api.ErrTime, func(c *api.Class) { c.Starts = []api.Start{{Slot: 1}, {Slot: 2}, {Slot: 9}} })
}

// P10.1: the codes of classes are different, but in nothing else they need be.
func TestValidDuplicate(t *testing.T) {
	named := func(codes ...string) []api.Class {
		var l []api.Class
		for _, code := range codes {
			l = append(l, small(code))
		}
		return l
	}
	checkValid(t, named("L1", "L2", "l1", "L01", "L", "C", "p"), api.OK)
	checkValid(t, named("L1", "L1"), api.ErrDuplicate)
	checkValid(t, named("L1", "L2", "L1"), api.ErrDuplicate)
	checkValid(t, named("L1", "L2", "L3", "L3"), api.ErrDuplicate)
	checkValid(t, named("L1", "L2", "L2", "?"), api.ErrDuplicate)
	checkValid(t, named("L1", "L2", "?", "L2"), api.ErrCode)
	other := class()
	other.Course, other.Part = "MB", "ex"
	checkValid(t, []api.Class{class(), other}, api.ErrDuplicate)
}

// fault is a way in which a class is wrong, and the error.
type fault struct {
	e    api.Errno
	harm func(c *api.Class)
}

// faults are what can be wrong with a class, in the order of P10.1. Each is independent of those before, as far as that is possible.
func faults() []fault {
	return []fault{
		{api.ErrCode, func(c *api.Class) { c.Code = "?" }},
		{api.ErrCode, func(c *api.Class) { c.Course = "" }},
		{api.ErrCode, func(c *api.Class) { c.Part = "-" }},
		{api.ErrRange, func(c *api.Class) { c.Length = 11 }},
		{api.ErrEmpty, func(c *api.Class) { c.Patterns = nil }},
		{api.ErrSize, func(c *api.Class) { c.Patterns = append(c.Patterns, 1, 2, 3, 4, 5, 6, 7) }},
		{api.ErrInvalid, func(c *api.Class) { c.Patterns = append(c.Patterns, 1023, 1023) }},
		{api.ErrRange, func(c *api.Class) { c.Seats = -1 }},
		{api.ErrSize, func(c *api.Class) { c.Features = append(texts("f", 9), c.Features...) }},
		{api.ErrSize, func(c *api.Class) { c.Staff = append(texts("s", 9), c.Staff...) }},
		{api.ErrCode, func(c *api.Class) { c.Features = append(c.Features, "") }},
		{api.ErrCode, func(c *api.Class) { c.Staff = append(c.Staff, "a") }},
		{api.ErrSize, func(c *api.Class) { c.Starts = append(starts(25), c.Starts...) }},
		{api.ErrTime, func(c *api.Class) { c.Starts = append(c.Starts, api.Start{}) }},
		{api.ErrDuplicate, func(c *api.Class) {}},
	}
}

// P10.1: all sets of faults in one class; the first one decides. No patterns, and too many or equal ones, exclude each other.
func TestValidOrder(t *testing.T) {
	const noPatterns, tooMany, equal = 4, 5, 6
	l := faults()
	duplicate := len(l) - 1
	for set := 1; set < 1<<len(l); set++ {
		if set>>noPatterns&1 == 1 && (set>>tooMany&1 == 1 || set>>equal&1 == 1) {
			continue
		}
		c, want := class(), api.OK
		for i, f := range l {
			if set>>i&1 == 1 {
				f.harm(&c)
				if want == api.OK {
					want = f.e
				}
			}
		}
		other := small("Q" + strconv.Itoa(set))
		if set>>duplicate == 1 {
			other.Code = "L1"
		}
		checkValid(t, []api.Class{other, c}, want)
	}
}

// P10.1: of two classes the first one that is wrong decides.
func TestValidFirst(t *testing.T) {
	l := faults()
	for _, a := range l[:len(l)-1] {
		for _, b := range l[:len(l)-1] {
			classes := many(4)
			a.harm(&classes[1])
			b.harm(&classes[2])
			checkValid(t, classes, a.e)
		}
	}
}

// P10.1, R2: the classes stay as they are.
func TestValidMemory(t *testing.T) {
	l := []api.Class{class(), small("x")}
	Valid(l, grid(), tenWeeks)
	checkClasses(t, l, []api.Class{class(), small("x")})
}
