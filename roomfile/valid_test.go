package roomfile

import (
	"math"
	"slices"
	"strconv"
	"strings"
	"testing"

	"timetable/api"
)

func checkValid(t *testing.T, l []api.Room, want api.Errno) {
	t.Helper()
	if e := Valid(l, grid(), tenWeeks); e != want {
		t.Errorf("Valid(%v) = %d, want %d", l, e, want)
	}
	if w, e := Write(l, grid(), tenWeeks); e != want || e != api.OK && len(w) > 0 {
		t.Errorf("Write(%v) = %v, %d, want the error %d", l, w, e, want)
	}
}

// checkRoom checks the error of the usual room with a change.
func checkRoom(t *testing.T, want api.Errno, change func(r *api.Room)) {
	t.Helper()
	r := room()
	change(&r)
	checkValid(t, []api.Room{r}, want)
}

// many returns n rooms with different codes.
func many(n int) []api.Room {
	var l []api.Room
	for _, code := range texts("R", n) {
		r := room()
		r.Code = code
		l = append(l, r)
	}
	return l
}

// P7.1, P7.3: the grid and the number of weeks come first.
func TestValidFrame(t *testing.T) {
	bad := api.Room{Closed: []api.Time{{}}}
	for _, l := range [][]api.Room{nil, {}, {room()}, {bad}, make([]api.Room, 17)} {
		for _, g := range wrongGrids() {
			if e := Valid(l, g, tenWeeks); e != api.ErrInvalid {
				t.Errorf("Valid in %v: %d", g, e)
			}
			if w, e := Write(l, g, tenWeeks); len(w) > 0 || e != api.ErrInvalid {
				t.Errorf("Write in %v: %v, %d", g, w, e)
			}
		}
		for _, weeks := range wrongWeeks() {
			if e := Valid(l, grid(), weeks); e != api.ErrInvalid {
				t.Errorf("Valid in %d weeks: %d", weeks, e)
			}
			if w, e := Write(l, grid(), weeks); len(w) > 0 || e != api.ErrInvalid {
				t.Errorf("Write in %d weeks: %v, %d", weeks, w, e)
			}
		}
	}
	for weeks := 1; weeks <= 20; weeks++ {
		r := api.Room{Code: "R", Building: "B", Seats: 1, Closed: []api.Time{{Weeks: 1<<weeks - 1, Length: 1}}}
		if e := Valid([]api.Room{r}, grid(), weeks); e != api.OK {
			t.Errorf("Valid in %d weeks: %d", weeks, e)
		}
		r.Closed[0].Weeks = 1 << weeks
		if e := Valid([]api.Room{r}, grid(), weeks); e != api.ErrTime {
			t.Errorf("a time in the week %d of %d: %d", weeks+1, weeks, e)
		}
	}
}

// P7.1: the number of rooms.
func TestValidRooms(t *testing.T) {
	for n := range 20 {
		want := api.OK
		if n > 16 {
			want = api.ErrSize
		}
		checkValid(t, many(n), want)
	}
	checkValid(t, make([]api.Room, 17), api.ErrSize)
	checkValid(t, make([]api.Room, 16), api.ErrCode)
	checkValid(t, slices.Repeat([]api.Room{room()}, 17), api.ErrSize)
	checkValid(t, slices.Repeat([]api.Room{room()}, 16), api.ErrDuplicate)
}

// P7.1: codes and seats.
func TestValidFields(t *testing.T) {
	longest := strings.Repeat("a", 16)
	for _, s := range []string{"R", "9", "a_", "a-", longest} {
		checkRoom(t, api.OK, func(r *api.Room) { r.Code = s })
		checkRoom(t, api.OK, func(r *api.Room) { r.Building = s })
		checkRoom(t, api.OK, func(r *api.Room) { r.Code, r.Building = s, s })
		checkRoom(t, api.OK, func(r *api.Room) { r.Features = []string{s} })
	}
	for _, s := range wrongCodes() {
		checkRoom(t, api.ErrCode, func(r *api.Room) { r.Code = s })
		checkRoom(t, api.ErrCode, func(r *api.Room) { r.Building = s })
		checkRoom(t, api.ErrCode, func(r *api.Room) { r.Features = []string{s} })
		checkRoom(t, api.ErrCode, func(r *api.Room) { r.Features = []string{"A", s} })
		checkRoom(t, api.ErrCode, func(r *api.Room) { r.Features = []string{s, "z"} })
	}
	for _, seats := range []int{1, 2, 30, 9998, 9999} {
		checkRoom(t, api.OK, func(r *api.Room) { r.Seats = seats })
	}
	for _, seats := range []int{math.MinInt, -1, 0, 10000, 10001, 1 << 32, 1<<32 + 1, math.MaxInt} {
		checkRoom(t, api.ErrRange, func(r *api.Room) { r.Seats = seats })
	}
}

// P7.1: features ascend bytewise.
func TestValidFeatures(t *testing.T) {
	for n := range 12 {
		want := api.OK
		if n > 8 {
			want = api.ErrSize
		}
		checkRoom(t, want, func(r *api.Room) { r.Features = texts("f", n) })
	}
	for _, x := range []struct {
		features string
		want     api.Errno
	}{
		{"a;b", api.OK},
		{"b;a", api.ErrCode},
		{"a;a", api.ErrCode},
		{"a;b;b", api.ErrCode},
		{"a;c;b", api.ErrCode},
		{"b;c;a", api.ErrCode},
		{"B;a", api.OK},
		{"a;B", api.ErrCode},
		{"a10;a9", api.OK},
		{"a9;a10", api.ErrCode},
		{"a09;a9", api.OK},
		{"a;a-;a0;aA;a_;aa", api.OK},
		{"9;A", api.OK},
		{"a;b;c;d;e;f;g;h", api.OK},
		{"a;b;c;d;e;f;h;g", api.ErrCode},
	} {
		checkRoom(t, x.want, func(r *api.Room) { r.Features = strings.Split(x.features, ";") })
	}
}

// P7.1: times fit the grid; they may be in any order, and equal.
func TestValidClosed(t *testing.T) {
	good := api.Time{Weeks: 1, Length: 1}
	for n := range 30 {
		want := api.OK
		if n > 24 {
			want = api.ErrSize
		}
		checkRoom(t, want, func(r *api.Room) { r.Closed = slices.Repeat([]api.Time{good}, n) })
	}
	for _, x := range []api.Time{
		{Weeks: 1023, Length: 10}, {Weeks: 512, Day: 4, Start: 9, Length: 1}, {Weeks: 341, Day: 2, Start: 3, Length: 2},
	} {
		checkRoom(t, api.OK, func(r *api.Room) { r.Closed = []api.Time{x} })
		checkRoom(t, api.OK, func(r *api.Room) { r.Closed = []api.Time{x, good, x} })
	}
	for _, x := range []api.Time{
		{}, {Weeks: 0, Length: 1}, {Weeks: -1, Length: 1}, {Weeks: 1024, Length: 1}, {Weeks: 1, Day: -1, Length: 1}, {Weeks: 1, Day: 5, Length: 1},
		{Weeks: 1, Start: -1, Length: 1}, {Weeks: 1, Start: 10, Length: 1}, {Weeks: 1, Start: 9, Length: 2}, {Weeks: 1, Length: 11}, {Weeks: 1, Length: 0}, {Weeks: 1, Length: -1},
		{Weeks: 1, Start: math.MaxInt, Length: math.MaxInt},
	} {
		checkRoom(t, api.ErrTime, func(r *api.Room) { r.Closed = []api.Time{x} })
		checkRoom(t, api.ErrTime, func(r *api.Room) { r.Closed = []api.Time{good, x} })
		checkRoom(t, api.ErrTime, func(r *api.Room) { r.Closed = []api.Time{x, good} })
	}
}

// P7.1: the codes of rooms are different, but in nothing else they need be.
func TestValidDuplicate(t *testing.T) {
	named := func(codes ...string) []api.Room {
		var l []api.Room
		for i, code := range codes {
			l = append(l, api.Room{Code: code, Building: "R1", Seats: 1 + i})
		}
		return l
	}
	checkValid(t, named("R1", "R2", "r1", "R01", "R"), api.OK)
	checkValid(t, named("R1", "R1"), api.ErrDuplicate)
	checkValid(t, named("R1", "R2", "R1"), api.ErrDuplicate)
	checkValid(t, named("R1", "R2", "R3", "R3"), api.ErrDuplicate)
	checkValid(t, named("R1", "R2", "R2", "?"), api.ErrDuplicate)
	checkValid(t, named("R1", "R2", "?", "R2"), api.ErrCode)
}

// fault is a way in which a room is wrong, and the error.
type fault struct {
	e    api.Errno
	harm func(r *api.Room)
}

// faults are what can be wrong with a room, in the order of P7.1. Each is independent of those before, as far as that is possible.
func faults() []fault {
	return []fault{
		{api.ErrCode, func(r *api.Room) { r.Code = "?" }},
		{api.ErrCode, func(r *api.Room) { r.Building = "" }},
		{api.ErrRange, func(r *api.Room) { r.Seats = 0 }},
		{api.ErrSize, func(r *api.Room) { r.Features = append(texts("f", 9), r.Features...) }},
		{api.ErrSize, func(r *api.Room) {
			r.Closed = append(slices.Repeat([]api.Time{{Weeks: 1, Length: 1}}, 25), r.Closed...)
		}},
		{api.ErrCode, func(r *api.Room) { r.Features = append(r.Features, "") }},
		{api.ErrCode, func(r *api.Room) { r.Features = append(r.Features, "a") }},
		{api.ErrTime, func(r *api.Room) { r.Closed = append(r.Closed, api.Time{}) }},
		{api.ErrDuplicate, func(r *api.Room) {}},
	}
}

// P7.1: all sets of faults in one room; the first one decides.
func TestValidOrder(t *testing.T) {
	l := faults()
	duplicate := len(l) - 1
	for set := 1; set < 1<<len(l); set++ {
		r, want := room(), api.OK
		for i, f := range l {
			if set>>i&1 == 1 {
				f.harm(&r)
				if want == api.OK {
					want = f.e
				}
			}
		}
		other := room()
		other.Code = "Q" + strconv.Itoa(set)
		if set>>duplicate == 1 {
			other.Code = "R1"
		}
		checkValid(t, []api.Room{other, r}, want)
	}
}

// P7.1: of two rooms the first one that is wrong decides.
func TestValidFirst(t *testing.T) {
	for _, a := range faults()[:8] {
		for _, b := range faults()[:8] {
			l := many(4)
			a.harm(&l[1])
			b.harm(&l[2])
			checkValid(t, l, a.e)
		}
	}
}
