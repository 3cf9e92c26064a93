package curriculum

import (
	"slices"
	"strconv"
	"strings"
	"testing"

	"timetable/api"
)

// cs is a curriculum with several courses, which do not ascend.
func cs() api.Curriculum {
	return api.Curriculum{Code: "cs", Courses: []string{"PH", "MA1", "MA2", "MA3"}}
}

// named returns curricula with one and the same course.
func named(codes ...string) []api.Curriculum {
	var l []api.Curriculum
	for _, code := range codes {
		l = append(l, api.Curriculum{Code: code, Courses: []string{"MA"}})
	}
	return l
}

// numbered returns n different codes in ascending order.
func numbered(before string, n int) []string {
	var l []string
	for i := range n {
		l = append(l, before+strconv.Itoa(10+i))
	}
	return l
}

// rightCodes and wrongCodes are codes, and texts that are none.
func rightCodes() []string {
	return []string{"a", "Z", "9", "a_", "a-", "0-_", "a1", strings.Repeat("a", 16)}
}

func wrongCodes() []string {
	return []string{"", "?", "_", "-", "_a", "-a", "a b", " a", "a ", "a;b", "a..b", "a,b", "a.b", "a\n", "a\x00", "\u00e9", "a\xff", strings.Repeat("a", 17), strings.Repeat("a", 1000)}
}

func equalCurricula(a, b api.Curriculum) bool {
	return a.Code == b.Code && slices.Equal(a.Courses, b.Courses)
}

func checkCurricula(t *testing.T, l, want []api.Curriculum) {
	t.Helper()
	if !slices.EqualFunc(l, want, equalCurricula) {
		t.Errorf("curricula %q, want %q", l, want)
	}
}
