package curriculum

import (
	"slices"
	"testing"

	"timetable/api"
)

func checkValid(t *testing.T, l []api.Curriculum, want api.Errno) {
	t.Helper()
	if e := Valid(l); e != want {
		t.Errorf("Valid(%.200q) = %d, want %d", l, e, want)
	}
	if w, e := Write(l); e != want || e != api.OK && len(w) > 0 {
		t.Errorf("Write(%.200q) = %.200q, %d, want the error %d", l, w, e, want)
	}
}

// checkCourses checks the error of lists in which a curriculum with such courses stands among others.
func checkCourses(t *testing.T, courses []string, want api.Errno) {
	t.Helper()
	x := api.Curriculum{Code: "x", Courses: courses}
	checkValid(t, []api.Curriculum{x}, want)
	checkValid(t, []api.Curriculum{cs(), x}, want)
	checkValid(t, []api.Curriculum{x, cs()}, want)
}

// P11.1: the number of curricula.
func TestValidSize(t *testing.T) {
	checkValid(t, nil, api.OK)
	checkValid(t, []api.Curriculum{}, api.OK)
	for n := range 40 {
		want := api.OK
		if n > 16 {
			want = api.ErrSize
		}
		checkValid(t, named(numbered("c", n)...), want)
	}
	checkValid(t, make([]api.Curriculum, 17), api.ErrSize)
	checkValid(t, make([]api.Curriculum, 16), api.ErrCode)
	checkValid(t, slices.Repeat(named("a"), 17), api.ErrSize)
	checkValid(t, slices.Repeat(named("a"), 16), api.ErrDuplicate)
	checkValid(t, named(append(numbered("c", 16), "?")...), api.ErrSize)
	checkValid(t, named(append(numbered("c", 15), "?")...), api.ErrCode)
}

// P11.1: what is a code, and what is none.
func TestValidCodes(t *testing.T) {
	for _, code := range rightCodes() {
		checkValid(t, named(code), api.OK)
		checkValid(t, named(code, "other"), api.OK)
		checkCourses(t, []string{code}, api.OK)
		checkCourses(t, []string{"other", code}, api.OK)
		checkCourses(t, []string{code, "other"}, api.OK)
	}
	for _, code := range wrongCodes() {
		checkValid(t, named(code), api.ErrCode)
		checkValid(t, named("other", code), api.ErrCode)
		checkValid(t, named(code, code), api.ErrCode)
		checkCourses(t, []string{code}, api.ErrCode)
		checkCourses(t, []string{"other", code}, api.ErrCode)
		checkCourses(t, []string{code, "other"}, api.ErrCode)
		checkCourses(t, []string{code, code}, api.ErrCode)
	}
}

// P11.1: the number of courses comes before what they are.
func TestValidCourses(t *testing.T) {
	checkCourses(t, nil, api.ErrEmpty)
	checkCourses(t, []string{}, api.ErrEmpty)
	for n := 1; n <= 100; n++ {
		courses := numbered("c", n)
		slices.Reverse(courses)
		if n <= 8 {
			checkCourses(t, courses, api.OK)
			checkCourses(t, make([]string, n), api.ErrCode)
		} else {
			checkCourses(t, courses, api.ErrSize)
			checkCourses(t, make([]string, n), api.ErrSize)
			checkCourses(t, slices.Repeat([]string{"a"}, n), api.ErrSize)
		}
	}
}

// P11.1: courses are different, in any order; the first one with an error decides.
func TestValidCoursesDuplicate(t *testing.T) {
	for i := range 8 {
		for k := range 8 {
			courses := numbered("c", 8)
			courses[i], courses[k] = courses[k], courses[i]
			checkCourses(t, courses, api.OK)
			courses[i] = courses[k]
			if i == k {
				continue
			}
			checkCourses(t, courses, api.ErrDuplicate)
			for wrong := range 8 {
				harmed := slices.Clone(courses)
				harmed[wrong] = "?"
				want := api.ErrCode // the wrong one may also stand where the second one of both was
				if wrong > max(i, k) {
					want = api.ErrDuplicate
				}
				checkCourses(t, harmed, want)
			}
		}
	}
	checkCourses(t, []string{"ma", "MA", "Ma", "m", "ma1", "ma01", "x"}, api.OK)
	checkCourses(t, []string{"x", "cs"}, api.OK)
	checkCourses(t, []string{"a", "a", "?"}, api.ErrDuplicate)
	checkCourses(t, []string{"a", "?", "a"}, api.ErrCode)
	checkCourses(t, []string{"?", "?"}, api.ErrCode)
}

// P11.1: codes are different; courses of several curricula need not be.
func TestValidDuplicate(t *testing.T) {
	checkValid(t, named("cs", "Cs", "cs1", "cs01", "c", "s"), api.OK)
	checkValid(t, named("a", "a"), api.ErrDuplicate)
	checkValid(t, named("a", "b", "a"), api.ErrDuplicate)
	checkValid(t, named("a", "b", "c", "c"), api.ErrDuplicate)
	checkValid(t, append(named("cs"), cs()), api.ErrDuplicate)
	checkValid(t, named("MA", "b"), api.OK)
}

// P11.1: all sets of errors of one curriculum; the first one decides.
func TestValidOrder(t *testing.T) {
	faults := []struct {
		e    api.Errno
		harm func(x, earlier *api.Curriculum)
	}{
		{api.ErrCode, func(x, earlier *api.Curriculum) { x.Code = "?" }},
		{api.ErrSize, func(x, earlier *api.Curriculum) { x.Courses = slices.Repeat(x.Courses, 3) }},
		{api.ErrCode, func(x, earlier *api.Curriculum) { x.Courses[1] = "" }},
		{api.ErrDuplicate, func(x, earlier *api.Curriculum) { x.Courses[2] = x.Courses[0] }},
		{api.ErrDuplicate, func(x, earlier *api.Curriculum) { earlier.Code = x.Code }},
	}
	for set := 1; set < 1<<len(faults); set++ {
		x, earlier, want := cs(), named("x")[0], api.OK
		for i, f := range slices.Backward(faults) {
			if set>>i&1 == 1 {
				f.harm(&x, &earlier)
				want = f.e
			}
		}
		checkValid(t, []api.Curriculum{earlier, x}, want)
	}
	checkValid(t, []api.Curriculum{{Code: "?"}}, api.ErrCode)
	checkValid(t, []api.Curriculum{cs(), {Code: "cs"}}, api.ErrEmpty)
}

// P11.1: of two curricula the first one with an error decides.
func TestValidFirst(t *testing.T) {
	wrong := []struct {
		x api.Curriculum
		e api.Errno
	}{
		{api.Curriculum{Code: "?", Courses: []string{"a"}}, api.ErrCode},
		{api.Curriculum{Code: "x"}, api.ErrEmpty},
		{api.Curriculum{Code: "x", Courses: make([]string, 9)}, api.ErrSize},
		{api.Curriculum{Code: "x", Courses: make([]string, 1)}, api.ErrCode},
		{api.Curriculum{Code: "x", Courses: []string{"a", "a"}}, api.ErrDuplicate},
		{api.Curriculum{Code: "a", Courses: []string{"b"}}, api.ErrDuplicate},
	}
	for _, first := range wrong {
		for _, second := range wrong {
			checkValid(t, append(named("a"), first.x, cs(), second.x), first.e)
		}
	}
}
