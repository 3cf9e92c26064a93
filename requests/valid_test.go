package requests

import (
	"math"
	"slices"
	"testing"

	"timetable/api"
)

func checkValid(t *testing.T, l []api.Request, want api.Errno) {
	t.Helper()
	if e := Valid(l); e != want {
		t.Errorf("Valid(%s) = %d, want %d", short(l), e, want)
	}
	if w, e := Write(l); e != want || e != api.OK && len(w) > 0 {
		t.Errorf("Write(%s) = %.200q, %d, want the error %d", short(l), w, e, want)
	}
}

// checkOne checks the error of lists in which a request stands, alone and among others.
func checkOne(t *testing.T, r api.Request, want api.Errno) {
	t.Helper()
	checkValid(t, []api.Request{r}, want)
	checkValid(t, []api.Request{ada(), r}, want)
	checkValid(t, []api.Request{r, ada()}, want)
}

// checkInstead checks the error of a request for the course X with such courses instead.
func checkInstead(t *testing.T, instead []string, want api.Errno) {
	t.Helper()
	checkOne(t, api.Request{Student: "s", Course: "X", Priority: 9, Instead: instead}, want)
}

// P12.1: the number of requests comes before what they are.
func TestValidSize(t *testing.T) {
	checkValid(t, nil, api.OK)
	checkValid(t, []api.Request{}, api.OK)
	for _, n := range []int{1, 2, 63, 64, 65, 399, 400} {
		checkValid(t, many(n, 64), api.OK)
		checkValid(t, many(n, 1), api.OK)
	}
	for _, n := range []int{401, 402, 1000} {
		checkValid(t, many(n, 64), api.ErrSize)
		checkValid(t, many(n, 1), api.ErrSize)
		checkValid(t, make([]api.Request, n), api.ErrSize)
		checkValid(t, slices.Repeat(named("a"), n), api.ErrSize)
	}
	checkValid(t, make([]api.Request, 400), api.ErrCode)
	checkValid(t, slices.Repeat(named("a"), 400), api.ErrDuplicate)
	checkValid(t, append(many(399, 64), named("?")...), api.ErrCode)
	checkValid(t, append(many(400, 64), named("?")...), api.ErrSize)
}

// P12.1: what is a code, and what is none.
func TestValidCodes(t *testing.T) {
	for _, code := range rightCodes() {
		checkOne(t, api.Request{Student: code, Course: "X", Priority: 1}, api.OK)
		checkOne(t, api.Request{Student: "s", Course: code, Priority: 1}, api.OK)
		checkOne(t, api.Request{Student: code, Course: code, Priority: 1}, api.OK)
		checkInstead(t, []string{code}, api.OK)
		checkInstead(t, []string{"other", code}, api.OK)
		checkInstead(t, []string{code, "other"}, api.OK)
	}
	for _, code := range wrongCodes() {
		checkOne(t, api.Request{Student: code, Course: "X", Priority: 1}, api.ErrCode)
		checkOne(t, api.Request{Student: "s", Course: code, Priority: 1}, api.ErrCode)
		checkOne(t, api.Request{Student: code, Course: code, Priority: 1}, api.ErrCode)
		checkInstead(t, []string{code}, api.ErrCode)
		checkInstead(t, []string{"other", code}, api.ErrCode)
		checkInstead(t, []string{code, "other"}, api.ErrCode)
		checkInstead(t, []string{code, code}, api.ErrCode)
	}
}

// P12.1: priorities are from 1 to 9.
func TestValidPriority(t *testing.T) {
	for n := -300; n <= 300; n++ {
		want := api.ErrRange
		if 1 <= n && n <= 9 {
			want = api.OK
		}
		checkOne(t, api.Request{Student: "s", Course: "X", Priority: n}, want)
	}
	for _, n := range []int{math.MinInt, math.MinInt + 1, math.MinInt32, math.MaxInt32, 1 << 32, 1<<32 + 1, math.MaxInt} {
		checkOne(t, api.Request{Student: "s", Course: "X", Priority: n}, api.ErrRange)
	}
}

// P12.1: the number of courses instead comes before what they are.
func TestValidInstead(t *testing.T) {
	checkInstead(t, nil, api.OK)
	checkInstead(t, []string{}, api.OK)
	for n := 1; n <= 100; n++ {
		courses := numbered("c", n)
		slices.Reverse(courses)
		if n <= 8 {
			checkInstead(t, courses, api.OK)
			checkInstead(t, make([]string, n), api.ErrCode)
			checkInstead(t, slices.Repeat([]string{"X"}, n), api.ErrDuplicate)
		} else {
			checkInstead(t, courses, api.ErrSize)
			checkInstead(t, make([]string, n), api.ErrSize)
			checkInstead(t, slices.Repeat([]string{"X"}, n), api.ErrSize)
		}
	}
}

// P12.1: courses instead are different, in any order; the first one with an error decides.
func TestValidInsteadDuplicate(t *testing.T) {
	for i := range 8 {
		for k := range 8 {
			courses := numbered("c", 8)
			courses[i], courses[k] = courses[k], courses[i]
			checkInstead(t, courses, api.OK)
			courses[i] = courses[k]
			if i == k {
				continue
			}
			checkInstead(t, courses, api.ErrDuplicate)
			for wrong := range 8 {
				harmed := slices.Clone(courses)
				harmed[wrong] = "?"
				want := api.ErrCode // the wrong one may also stand where the second one of both was
				if wrong > max(i, k) {
					want = api.ErrDuplicate
				}
				checkInstead(t, harmed, want)
			}
		}
	}
	checkInstead(t, []string{"ma", "MA", "Ma", "m", "ma1", "ma01", "s", "ada"}, api.OK)
	checkInstead(t, []string{"a", "a", "?"}, api.ErrDuplicate)
	checkInstead(t, []string{"a", "?", "a"}, api.ErrCode)
}

// P12.1: the course does not stand among those instead, at any place.
func TestValidInsteadCourse(t *testing.T) {
	for i := range 8 {
		courses := numbered("c", 8)
		courses[i] = "X"
		checkInstead(t, courses, api.ErrDuplicate)
		for wrong := range 8 {
			harmed := slices.Clone(courses)
			harmed[wrong] = "?"
			want := api.ErrCode
			if wrong > i {
				want = api.ErrDuplicate
			}
			checkInstead(t, harmed, want)
		}
		courses[i] = "x"
		checkInstead(t, courses, api.OK)
	}
	checkInstead(t, []string{"X"}, api.ErrDuplicate)
	checkInstead(t, []string{"X1", "X0", "XX"}, api.OK)
}

// P12.1: student and course together are different, whatever else the requests say.
func TestValidDuplicate(t *testing.T) {
	again := api.Request{Student: "ada", Course: "PH", Priority: 9}
	checkValid(t, []api.Request{ada(), again}, api.ErrDuplicate)
	checkValid(t, []api.Request{again, ada()}, api.ErrDuplicate)
	checkValid(t, []api.Request{ada(), ada()}, api.ErrDuplicate)
	for i := range 5 {
		for k := range i {
			l := many(5, 2)
			l[i].Student, l[i].Course = l[k].Student, l[k].Course
			checkValid(t, l, api.ErrDuplicate)
		}
	}
	pair := func(a, b, c, d string) []api.Request {
		return []api.Request{{Student: a, Course: b, Priority: 1}, {Student: c, Course: d, Priority: 1}}
	}
	checkValid(t, pair("a", "b", "a", "b"), api.ErrDuplicate)
	checkValid(t, pair("a", "b", "a", "c"), api.OK)
	checkValid(t, pair("a", "b", "c", "b"), api.OK)
	checkValid(t, pair("a", "b", "b", "a"), api.OK)
	checkValid(t, pair("a", "bc", "ab", "c"), api.OK)
	checkValid(t, pair("a", "b", "A", "b"), api.OK)
	checkValid(t, pair("a", "b1", "a", "b01"), api.OK)
	checkValid(t, pair("a", "a", "a", "b"), api.OK)
}

// P12.1: the number of different students.
func TestValidStudents(t *testing.T) {
	for n := 1; n <= 100; n++ {
		want := api.OK
		if n > 64 {
			want = api.ErrSize
		}
		checkValid(t, named(numbered("s", n)...), want)
		checkValid(t, many(400, n), want)
	}
	full := named(numbered("s", 64)...)
	next := named("x")[0]
	other := func(student string) api.Request { return api.Request{Student: student, Course: "PH", Priority: 1} }
	checkValid(t, append(slices.Clone(full), next), api.ErrSize)
	checkValid(t, append([]api.Request{next}, full...), api.ErrSize)
	for _, r := range full {
		checkValid(t, append(slices.Clone(full), other(r.Student)), api.OK)
		checkValid(t, append(slices.Clone(full), other(r.Student), next), api.ErrSize)
		checkValid(t, append(slices.Clone(full), r), api.ErrDuplicate)
		checkValid(t, append(slices.Clone(full), r, next), api.ErrDuplicate)
		checkValid(t, append(slices.Clone(full), next, r), api.ErrSize)
	}
	// Each one is looked at with all its errors before the next one.
	checkValid(t, append(slices.Clone(full), next, api.Request{}), api.ErrSize)
	checkValid(t, append(slices.Clone(full), api.Request{}, next), api.ErrCode)
	checkValid(t, append(slices.Clone(full), api.Request{Student: "x", Course: "MA"}), api.ErrRange)
}

// P12.1: all sets of errors of one request; the first one decides.
func TestValidOrder(t *testing.T) {
	full := named(numbered("s", 63)...)
	faults := []struct {
		e    api.Errno
		harm func(x, earlier *api.Request)
	}{
		{api.ErrCode, func(x, earlier *api.Request) { x.Course = "?" }},
		{api.ErrRange, func(x, earlier *api.Request) { x.Priority = 0 }},
		{api.ErrSize, func(x, earlier *api.Request) { x.Instead = slices.Repeat(x.Instead, 3) }},
		{api.ErrCode, func(x, earlier *api.Request) { x.Instead[0] = "" }},
		{api.ErrDuplicate, func(x, earlier *api.Request) { x.Instead[1] = x.Course }},
		{api.ErrCode, func(x, earlier *api.Request) { x.Instead[2] = "?" }},
		{api.ErrDuplicate, func(x, earlier *api.Request) { x.Instead[3] = x.Instead[2] }},
		{api.ErrDuplicate, func(x, earlier *api.Request) { earlier.Student, earlier.Course = x.Student, x.Course }},
	}
	for set := range 1 << len(faults) {
		x, earlier, want := ada(), named("x")[0], api.ErrSize // the student is one too many
		for i, f := range slices.Backward(faults) {
			if set>>i&1 == 1 {
				f.harm(&x, &earlier)
				want = f.e
			}
		}
		checkValid(t, append(slices.Clone(full), earlier, x), want)
	}
	checkOne(t, api.Request{Student: "?", Course: "X"}, api.ErrCode)
	checkOne(t, api.Request{Student: "s", Priority: 1}, api.ErrCode)
}

// P12.1: of two requests the first one with an error decides.
func TestValidFirst(t *testing.T) {
	wrong := []struct {
		x api.Request
		e api.Errno
	}{
		{api.Request{Student: "?", Course: "a", Priority: 1}, api.ErrCode},
		{api.Request{Student: "b", Course: "?", Priority: 1}, api.ErrCode},
		{api.Request{Student: "c", Course: "a", Priority: 10}, api.ErrRange},
		{api.Request{Student: "d", Course: "a", Priority: 1, Instead: numbered("c", 9)}, api.ErrSize},
		{api.Request{Student: "e", Course: "a", Priority: 1, Instead: []string{"b", "?"}}, api.ErrCode},
		{api.Request{Student: "f", Course: "a", Priority: 1, Instead: []string{"b", "a"}}, api.ErrDuplicate},
		{api.Request{Student: "g", Course: "a", Priority: 1, Instead: []string{"b", "b"}}, api.ErrDuplicate},
		{named("s10")[0], api.ErrDuplicate},
		{named("h")[0], api.ErrSize},
	}
	for _, first := range wrong {
		for _, second := range wrong {
			full := named(append(numbered("s", 63), "ada")...)
			checkValid(t, append(full, first.x, ada(), second.x), first.e)
		}
	}
}

// P12.1, R2: the requests stay as they are.
func TestValidMemory(t *testing.T) {
	l := []api.Request{ada(), {Student: "b", Course: "X", Priority: 1, Instead: slices.Grow([]string{"b", "a"}, 9)}}
	before := []api.Request{ada(), {Student: "b", Course: "X", Priority: 1, Instead: []string{"b", "a"}}}
	checkValid(t, l, api.OK)
	checkRequests(t, l, before)
	if beyond := l[1].Instead[:3]; beyond[2] != "" {
		t.Errorf("behind the courses instead stands %q", beyond[2])
	}
}
