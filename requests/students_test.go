package requests

import (
	"math"
	"slices"
	"strings"
	"testing"

	"timetable/api"
	"timetable/codes"
)

// allLists calls f with all lists of at most n of the names.
func allLists(names []string, n int, f func(l []string)) {
	var extend func(l []string)
	extend = func(l []string) {
		f(l)
		if len(l) < n {
			for _, name := range names {
				extend(append(slices.Clone(l), name))
			}
		}
	}
	extend(nil)
}

func checkStudents(t *testing.T, l []api.Request, want ...string) {
	t.Helper()
	if students := Students(l); !slices.Equal(students, want) {
		t.Errorf("Students(%s) = %.200q, want %.200q", short(l), students, want)
	}
}

// P12.3: students in natural order, each once.
func TestStudents(t *testing.T) {
	checkStudents(t, nil)
	checkStudents(t, []api.Request{})
	checkStudents(t, []api.Request{ada()}, "ada")
	checkStudents(t, []api.Request{ada(), ada(), ada()}, "ada")
	checkStudents(t, named("b", "a", "b", "c", "a"), "a", "b", "c")
	checkStudents(t, named("s10", "s9", "s09", "s1", "S11", "s010", "s", "10", "9"), "9", "10", "S11", "s", "s1", "s09", "s9", "s010", "s10")
	checkStudents(t, named("a", "A", "a-", "a_", "a1", "aa", "aA", "Aa"), "A", "Aa", "a", "a1", "a-", "aA", "a_", "aa")
}

// P12.3: requests are taken as they are.
func TestStudentsNotValid(t *testing.T) {
	checkStudents(t, make([]api.Request, 3), "")
	checkStudents(t, named("\xff", "?", "", "\x00", "?", strings.Repeat("a", 17)), "", "\x00", "?", strings.Repeat("a", 17), "\xff")
	checkStudents(t, []api.Request{{Student: "b"}, {Student: "a", Priority: -1}, {Student: "b", Course: "?"}}, "a", "b")
	checkStudents(t, many(5000, 200), Students(many(200, 200))...)
	if n := len(Students(many(5000, 200))); n != 200 {
		t.Errorf("%d students of 200", n)
	}
}

// P12.3: all short lists of students; the order of the requests does not matter.
func TestStudentsAll(t *testing.T) {
	names := []string{"a9", "a10", "a09", "a", "A1", "9"}
	allLists(names, 5, func(l []string) {
		students := Students(named(l...))
		for i, student := range students {
			if !slices.Contains(l, student) || i > 0 && codes.Compare(students[i-1], student) >= 0 {
				t.Fatalf("Students of %q: %q", l, students)
			}
		}
		for _, name := range l {
			if !slices.Contains(students, name) {
				t.Fatalf("Students of %q: %q", l, students)
			}
		}
	})
}

func checkWanted(t *testing.T, l []api.Request, student string, want ...api.Request) {
	t.Helper()
	if wanted := Wanted(l, student); !slices.EqualFunc(wanted, want, equalRequests) {
		t.Errorf("Wanted(%s, %q) = %s, want %s", short(l), student, short(wanted), short(want))
	}
}

// P12.3: the requests of one student, with all that they say.
func TestWanted(t *testing.T) {
	first := api.Request{Student: "ada", Course: "MA", Priority: 1, Instead: []string{"b", "a"}}
	last := api.Request{Student: "ada", Course: "A", Priority: 9}
	same := api.Request{Student: "ada", Course: "B", Priority: 3, Instead: []string{"PH"}}
	bob := api.Request{Student: "bob", Course: "PH", Priority: 2}
	l := []api.Request{last, ada(), bob, same, first}
	checkWanted(t, l, "ada", first, ada(), same, last)
	checkWanted(t, l, "bob", bob)
	slices.Reverse(l)
	checkWanted(t, l, "ada", first, same, ada(), last)
	for _, nobody := range []string{"", "Ada", "ad", "adaa", "ada ", "PH", "?"} {
		checkWanted(t, l, nobody)
	}
	checkWanted(t, nil, "ada")
	checkWanted(t, []api.Request{}, "")
}

// wantedByRounds reads P12.3 in another way: it goes through the list once for each priority.
func wantedByRounds(l []api.Request, student string) []api.Request {
	var wanted []api.Request
	for priority := range 10 {
		for _, r := range l {
			if r.Student == student && r.Priority == priority {
				wanted = append(wanted, r)
			}
		}
	}
	return wanted
}

// P12.3: all short lists of priorities; equal ones stay in the order of the list.
func TestWantedAll(t *testing.T) {
	places := []string{"a1", "a2", "a9", "b1", "b2"}
	allLists(places, 6, func(names []string) {
		var l []api.Request
		for i, name := range names {
			l = append(l, api.Request{Student: name[:1], Course: numbered("c", i+1)[i], Priority: int(name[1] - '0')})
		}
		checkWanted(t, l, "a", wantedByRounds(l, "a")...)
	})
}

// P12.3: so many requests that a sort which is not stable would mix equal ones up.
func TestWantedMany(t *testing.T) {
	l := many(5000, 3)
	for i := range l {
		l[i].Priority = 1 + i*i%9*7%9
	}
	for _, student := range []string{"s0", "s1", "s2", "s3"} {
		checkWanted(t, l, student, wantedByRounds(l, student)...)
	}
}

// P12.3: requests are taken as they are, and many with one priority stay in order.
func TestWantedNotValid(t *testing.T) {
	checkWanted(t, make([]api.Request, 2), "", api.Request{}, api.Request{})
	var l []api.Request
	for _, n := range []int{math.MaxInt, 3, math.MinInt, -1, 0, 10, math.MaxInt, 1} {
		l = append(l, api.Request{Student: "?", Priority: n})
	}
	checkWanted(t, l, "?", l[2], l[3], l[4], l[7], l[1], l[5], l[0], l[6])
	twice := []api.Request{ada(), ada()}
	checkWanted(t, twice, "ada", twice...)
	equal := many(5000, 1)
	for i := range equal {
		equal[i].Priority = 4
	}
	checkWanted(t, equal, "s0", equal...)
}

// P12.3, R2: the requests stay as they are, and results share no memory with them or with each other.
func TestWantedMemory(t *testing.T) {
	same := []string{"b", "a"}
	l := []api.Request{{Student: "s", Course: "x", Priority: 2, Instead: same}, {Student: "s", Course: "y", Priority: 1, Instead: same}}
	wanted := Wanted(l, "s")
	if l[0].Course != "x" || l[1].Course != "y" || len(wanted) != 2 {
		t.Fatalf("after Wanted: %v, %v", l, wanted)
	}
	wanted[0].Instead[0] = "?"
	_ = append(wanted[0].Instead, "?")
	wanted[0].Course = "?"
	if !slices.Equal(same, []string{"b", "a"}) || !slices.Equal(wanted[1].Instead, same) {
		t.Errorf("after a change of a result: %v, %v", l, wanted)
	}
	checkWanted(t, l, "s", l[1], l[0])
	students := Students(l)
	students[0] = "?"
	checkStudents(t, l, "s")
}

// The consequence: all requests are those that the students want, each once.
func TestWantedByStudents(t *testing.T) {
	l := sample()
	var all []api.Request
	for _, student := range Students(l) {
		all = append(all, Wanted(l, student)...)
	}
	if len(all) != len(l) {
		t.Errorf("%d requests are wanted, %d are there", len(all), len(l))
	}
	for _, r := range l {
		if !slices.ContainsFunc(all, func(other api.Request) bool { return equalRequests(r, other) }) {
			t.Errorf("%v is not wanted", r)
		}
	}
}
