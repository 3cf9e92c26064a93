package registry

import (
	"fmt"
	"math"
	"slices"
	"strconv"
	"testing"

	"timetable/api"
)

const tenWeeks = 10

func grid() api.Grid { return api.Grid{Days: 5, Slots: 10, Begin: 480, Minutes: 45} }

func term() api.Term { return api.Term{First: 2, Weeks: tenWeeks, Holidays: []int{4, 30}} }

// allWeeks is the set of all weeks of the term.
const allWeeks = 1<<tenWeeks - 1

// small returns a registry with everything that one file names of another.
func small() api.Registry {
	return api.Registry{
		Grid: grid(),
		Term: term(),
		Rooms: []api.Room{
			{Code: "R1", Building: "B", Seats: 30, Features: []string{"beamer", "lab"}, Closed: []api.Time{{Weeks: 341, Length: 2}}},
			{Code: "R2", Building: "C", Seats: 20},
		},
		Travel: api.Travel{Buildings: []string{"B", "C"}, Slots: [][]int{{0, 2}, {2, 0}}},
		Staff: []api.Lecturer{
			{Code: "ada", Away: []api.Time{{Weeks: allWeeks, Day: 2, Length: 4}}},
			{Code: "bob"},
		},
		Classes: []api.Class{
			{Code: "L1", Course: "MA", Part: "lec", Length: 2, Patterns: []int{allWeeks}, Seats: 25, Features: []string{"beamer"}, Staff: []string{"ada"}, Starts: []api.Start{{Slot: 2}, {Day: 1, Slot: 2}}},
			{Code: "L2", Course: "PH", Part: "lec", Length: 2, Patterns: []int{allWeeks}, Seats: 25, Features: []string{"beamer"}, Staff: []string{"ada", "bob"}, Starts: []api.Start{{Slot: 3}}},
			{Code: "E1", Course: "MA", Part: "ex", Length: 1, Patterns: []int{341, 682}, Seats: 15, Staff: []string{"bob"}},
			{Code: "S1", Course: "CH", Part: "sem", Length: 10, Patterns: []int{1}},
		},
		Curricula: []api.Curriculum{{Code: "cs", Courses: []string{"MA", "PH"}}, {Code: "ch", Courses: []string{"CH"}}},
		Requests: []api.Request{
			{Student: "s1", Course: "MA", Priority: 1},
			{Student: "s1", Course: "PH", Priority: 2, Instead: []string{"MA", "CH"}},
			{Student: "s2", Course: "PH", Priority: 9, Instead: []string{"CH"}},
		},
	}
}

// smallFiles returns the texts of the small registry.
func smallFiles() []string {
	return []string{
		"R1,B,30,beamer;lab,Mo 1-2 odd\nR2,C,20,,\n",
		"B,C,2\n",
		"ada,We 1-4\nbob,\n",
		"L1,MA,lec,2,all,25,beamer,ada,Mo 3;Tu 3\nL2,PH,lec,2,all,25,beamer,ada;bob,Mo 4\nE1,MA,ex,1,odd/even,15,,bob,\nS1,CH,sem,10,1,0,,,\n",
		"cs,MA;PH\nch,CH\n",
		"s1,MA,1,\ns1,PH,2,MA;CH\ns2,PH,9,CH\n",
	}
}

// shown writes a registry with the names of all fields; lists without elements look the same, whether they are nil or not.
func shown(r api.Registry) string { return fmt.Sprintf("%+v", r) }

func checkRegistry(t *testing.T, r, want api.Registry) {
	t.Helper()
	if shown(r) != shown(want) {
		t.Errorf("registry\n%s, want\n%s", shown(r), shown(want))
	}
}

func checkIndex(t *testing.T, r api.Registry, kind int, code string, want int) {
	t.Helper()
	if i := Index(r, kind, code); i != want {
		t.Errorf("Index(%d, %q) = %d, want %d", kind, code, i, want)
	}
}

// P13.4: what has a code, in each file that has codes.
func TestIndex(t *testing.T) {
	r := small()
	for kind, l := range map[int][]string{
		api.FileRooms:     {"R1", "R2"},
		api.FileStaff:     {"ada", "bob"},
		api.FileClasses:   {"L1", "L2", "E1", "S1"},
		api.FileCurricula: {"cs", "ch"},
	} {
		for i, code := range l {
			checkIndex(t, r, kind, code, i)
			for _, other := range []int{api.FileRooms, api.FileStaff, api.FileClasses, api.FileCurricula} {
				if other != kind {
					checkIndex(t, r, other, code, -1)
				}
			}
			for _, near := range []string{code + "0", code[:1], "0" + code, code + " "} {
				checkIndex(t, r, kind, near, -1)
			}
		}
		for _, code := range []string{"", "x", "r1", "ADA", "B", "MA", "lec", "beamer", "s1"} {
			checkIndex(t, r, kind, code, -1)
		}
	}
}

// P13.4: other kinds, also of files that name the code.
func TestIndexKinds(t *testing.T) {
	r := small()
	for _, kind := range []int{math.MinInt, -1, 0, api.FileTravel, api.FileRequests, 7, 8, 257, 1<<32 + 1, math.MaxInt} {
		for _, code := range []string{"R1", "ada", "L1", "cs", "B", "s1", "MA", "PH", ""} {
			checkIndex(t, r, kind, code, -1)
		}
	}
}

// P13.4, R1: registries that are not valid are taken as they are.
func TestIndexInvalid(t *testing.T) {
	for kind := range 9 {
		checkIndex(t, api.Registry{}, kind, "", -1)
		checkIndex(t, api.Registry{}, kind, "R1", -1)
	}
	r := api.Registry{Rooms: []api.Room{{}, {Code: "?"}, {Code: "a"}, {Code: "?"}}, Staff: []api.Lecturer{{Code: "b"}, {Code: "b"}}, Classes: []api.Class{{Code: "c"}, {}, {}}, Curricula: []api.Curriculum{{Code: "d"}, {Code: "?"}}}
	checkIndex(t, r, api.FileRooms, "", 0)
	checkIndex(t, r, api.FileRooms, "?", 1)
	checkIndex(t, r, api.FileStaff, "b", 0)
	checkIndex(t, r, api.FileClasses, "", 1)
	checkIndex(t, r, api.FileCurricula, "?", 1)
}

func checkCourse(t *testing.T, r api.Registry, code string, want ...int) {
	t.Helper()
	if l := Course(r, code); !slices.Equal(l, want) {
		t.Errorf("Course(%q) = %v, want %v", code, l, want)
	}
}

// P13.4: the classes of a course, in whatever part.
func TestCourse(t *testing.T) {
	r := small()
	checkCourse(t, r, "MA", 0, 2)
	checkCourse(t, r, "PH", 1)
	checkCourse(t, r, "CH", 3)
	for _, code := range []string{"", "M", "MA1", "ma", "MA ", "L1", "lec", "ada", "cs", "R1", "s1", "?"} {
		checkCourse(t, r, code)
		checkCourse(t, api.Registry{}, code)
	}
	var all []int
	for i := range 100 {
		r.Classes = append(r.Classes, api.Class{Code: "?", Course: strconv.Itoa(i % 3)})
		if i%3 == 1 {
			all = append(all, i+4)
		}
	}
	checkCourse(t, r, "1", all...)
	checkCourse(t, api.Registry{Classes: make([]api.Class, 2)}, "", 0, 1)
}

// P13.4, R2: the registry stays as it is, and every call has a result of its own.
func TestIndexMemory(t *testing.T) {
	r := small()
	clear(Course(r, "MA"))
	checkCourse(t, r, "MA", 0, 2)
	Index(r, api.FileClasses, "L1")
	checkRegistry(t, r, small())
}
