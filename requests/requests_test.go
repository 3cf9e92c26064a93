package requests

import (
	"fmt"
	"slices"
	"strconv"
	"strings"
	"testing"

	"timetable/api"
	"timetable/records"
)

// ada wants a course for which others would do, which do not ascend.
func ada() api.Request {
	return api.Request{Student: "ada", Course: "PH", Priority: 3, Instead: []string{"MB", "MA1", "MA2", "MA3"}}
}

// named returns requests of students for one and the same course.
func named(students ...string) []api.Request {
	var l []api.Request
	for _, student := range students {
		l = append(l, api.Request{Student: student, Course: "MA", Priority: 1})
	}
	return l
}

// many returns n requests of so many students, all different.
func many(n, students int) []api.Request {
	var l []api.Request
	for i := range n {
		l = append(l, api.Request{Student: "s" + strconv.Itoa(i%students), Course: "c" + strconv.Itoa(i/students), Priority: 1 + i%9})
	}
	return l
}

// numbered returns n different codes in ascending order.
func numbered(before string, n int) []string {
	var l []string
	for i := range n {
		l = append(l, before+strconv.Itoa(10+i))
	}
	return l
}

// rightCodes and wrongCodes are codes, and texts that are none.
func rightCodes() []string {
	return []string{"a", "Z", "9", "a_", "a-", "0-_", "a1", strings.Repeat("a", 16)}
}

func wrongCodes() []string {
	return []string{"", "?", "_", "-", "_a", "-a", "a b", " a", "a ", "a;b", "a..b", "a,b", "a.b", "a\n", "a\x00", "\u00e9", "a\xff", strings.Repeat("a", 17), strings.Repeat("a", 1000)}
}

// short returns how a list begins, which can be long.
func short(l []api.Request) string { return fmt.Sprintf("%.200s", fmt.Sprint(l)) }

func equalRequests(a, b api.Request) bool {
	return a.Student == b.Student && a.Course == b.Course && a.Priority == b.Priority && slices.Equal(a.Instead, b.Instead)
}

func checkRequests(t *testing.T, l, want []api.Request) {
	t.Helper()
	if !slices.EqualFunc(l, want, equalRequests) {
		t.Errorf("requests %s, want %s", short(l), short(want))
	}
}

// The examples of the chapter.
func TestExamples(t *testing.T) {
	file, _ := records.Parse("s1,MA101,2,\"MA102;MA103\"\ns1,MA101,1,\n", api.Dialect{Delimiter: ',', Quote: '"'})
	l, p := Read(file)
	checkRequests(t, l, []api.Request{{Student: "s1", Course: "MA101", Priority: 2, Instead: []string{"MA102", "MA103"}}})
	if !slices.Equal(p, []api.Problem{{Line: 2, Code: api.ErrDuplicate}}) {
		t.Errorf("problems %v", p)
	}
}
