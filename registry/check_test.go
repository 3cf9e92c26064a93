package registry

import (
	"slices"
	"testing"

	"timetable/api"
)

// checkError checks the error of the small registry after a change, which Store returns too.
func checkError(t *testing.T, want api.Errno, change func(r *api.Registry)) {
	t.Helper()
	r := small()
	change(&r)
	if e := Check(r); e != want {
		t.Errorf("Check(%s) = %d, want %d", shown(r), e, want)
	}
	files, e := Store(r)
	if e != want || (e == api.OK) != (len(files) == 6) || e != api.OK && len(files) > 0 {
		t.Errorf("Store(%s) = %q, %d; want the error %d", shown(r), files, e, want)
	}
}

// P13.1: registries without an error.
func TestCheck(t *testing.T) {
	checkError(t, api.OK, func(r *api.Registry) {})
	checkError(t, api.OK, func(r *api.Registry) { *r = api.Registry{Grid: grid(), Term: term()} })
	checkError(t, api.OK, func(r *api.Registry) { r.Rooms, r.Travel, r.Curricula, r.Requests = nil, api.Travel{}, nil, nil })
	checkError(t, api.OK, func(r *api.Registry) { r.Classes, r.Curricula, r.Requests = nil, nil, nil })
	checkError(t, api.OK, func(r *api.Registry) { r.Staff = append(r.Staff, api.Lecturer{Code: "eve"}) })
	checkError(t, api.OK, func(r *api.Registry) { r.Travel = api.Travel{Buildings: []string{"X"}, Slots: [][]int{{0}}} })
	checkError(t, api.OK, func(r *api.Registry) { r.Classes[0].Features = []string{"organ"} })
	checkError(t, api.ErrRange, func(r *api.Registry) { *r = api.Registry{} })
}

// P13.1: errors of each file, with the grid and the weeks that count.
func TestCheckFiles(t *testing.T) {
	late := api.Time{Weeks: 1 << tenWeeks, Length: 1}
	for want, changes := range map[api.Errno][]func(r *api.Registry){
		api.ErrRange: {
			func(r *api.Registry) { r.Grid.Days = 0 },
			func(r *api.Registry) { r.Grid.Minutes = 1 },
			func(r *api.Registry) { r.Term.Weeks = 0 },
			func(r *api.Registry) { r.Term.Weeks = 21 },
			func(r *api.Registry) { r.Rooms[1].Seats = 0 },
			func(r *api.Registry) { r.Travel.Slots[0][1] = 3 },
			func(r *api.Registry) { r.Classes[3].Length = 11 },
			func(r *api.Registry) { r.Grid.Slots = 9 },
			func(r *api.Registry) { r.Requests[2].Priority = 10 },
		},
		api.ErrDate: {
			func(r *api.Registry) { r.Term.First = 3 },
			func(r *api.Registry) { r.Term.Holidays = []int{72} },
		},
		api.ErrCode: {
			func(r *api.Registry) { r.Rooms[1].Building = "" },
			func(r *api.Registry) { r.Travel.Buildings[0] = "?" },
			func(r *api.Registry) { r.Staff[1].Code = "-" },
			func(r *api.Registry) { r.Classes[0].Staff = []string{"?"} },
			func(r *api.Registry) { r.Curricula[0].Courses[1] = "" },
			func(r *api.Registry) { r.Requests[1].Instead[0] = "a b" },
		},
		api.ErrDuplicate: {
			func(r *api.Registry) { r.Term.Holidays = []int{4, 4} },
			func(r *api.Registry) { r.Rooms[1].Code = "R1" },
			func(r *api.Registry) { r.Travel.Buildings[1] = "B" },
			func(r *api.Registry) { r.Staff[1].Code = "ada" },
			func(r *api.Registry) { r.Classes[3].Code = "L2" },
			func(r *api.Registry) { r.Curricula[1].Code = "cs" },
			func(r *api.Registry) { r.Requests[2].Student = "s1" },
		},
		api.ErrTime: {
			func(r *api.Registry) { r.Rooms[0].Closed[0] = late },
			func(r *api.Registry) { r.Staff[0].Away[0] = late },
			func(r *api.Registry) { r.Rooms[0].Closed[0].Day = 5 },
			func(r *api.Registry) { r.Staff[0].Away[0].Start = 10 },
			func(r *api.Registry) { r.Classes[0].Starts[1].Day = 5 },
			func(r *api.Registry) { r.Term.Weeks, r.Term.Holidays = 9, nil },
		},
		api.ErrInvalid: {
			func(r *api.Registry) { r.Travel.Slots = nil },
			func(r *api.Registry) { r.Classes[0].Patterns[0] = 1 << tenWeeks },
		},
		api.ErrEmpty: {func(r *api.Registry) { r.Curricula[1].Courses = nil }},
		api.ErrSize: {
			func(r *api.Registry) { r.Term.Holidays = make([]int, 65) },
			func(r *api.Registry) { r.Rooms = make([]api.Room, 17) },
			func(r *api.Registry) { r.Travel.Buildings = make([]string, 9) },
			func(r *api.Registry) { r.Staff = make([]api.Lecturer, 33) },
			func(r *api.Registry) { r.Classes = make([]api.Class, 25) },
			func(r *api.Registry) { r.Curricula = make([]api.Curriculum, 17) },
			func(r *api.Registry) { r.Requests = make([]api.Request, 401) },
		},
		api.OK: {
			func(r *api.Registry) { r.Term.Weeks, r.Rooms[0].Closed[0], r.Staff[0].Away[0] = 11, late, late },
			func(r *api.Registry) { r.Term.Weeks, r.Classes[0].Patterns[0] = 11, 1<<tenWeeks },
		},
	} {
		for _, change := range changes {
			checkError(t, want, change)
		}
	}
}

// P13.1: who teaches a class is a lecturer.
func TestCheckStaff(t *testing.T) {
	for _, code := range []string{"eve", "a", "ad", "ada0", "Ada", "ADA", "bo", "L1", "MA", "lec", "R1", "B", "cs", "s1", "beamer"} {
		for i := range small().Classes {
			checkError(t, api.ErrUnknown, func(r *api.Registry) { r.Classes[i].Staff = []string{code} })
			checkError(t, api.ErrUnknown, func(r *api.Registry) { r.Classes[i].Staff = sorted(code, "ada") })
			checkError(t, api.ErrUnknown, func(r *api.Registry) { r.Classes[i].Staff = sorted("ada", code, "bob") })
		}
		checkError(t, api.OK, func(r *api.Registry) {
			r.Staff = append(r.Staff, api.Lecturer{Code: code})
			r.Classes[3].Staff = sorted("ada", code)
		})
	}
	checkError(t, api.ErrUnknown, func(r *api.Registry) { r.Staff = nil })
	checkError(t, api.ErrUnknown, func(r *api.Registry) { r.Staff = r.Staff[:1] })
	checkError(t, api.ErrUnknown, func(r *api.Registry) { r.Staff = r.Staff[1:] })
}

// P13.1: the courses of curricula and requests have a class.
func TestCheckCourses(t *testing.T) {
	for _, code := range []string{"XX", "M", "MA1", "ma", "L1", "lec", "ada", "R1", "cs", "s1", "beamer"} {
		for i := range small().Curricula {
			for _, l := range [][]string{{code}, {code, "PH"}, {"PH", code}, {"CH", code, "MA"}, {"MA", "PH", "CH", code}} {
				checkError(t, api.ErrUnknown, func(r *api.Registry) { r.Curricula[i].Courses = l })
			}
		}
		for i := range small().Requests {
			checkError(t, api.ErrUnknown, func(r *api.Registry) { r.Requests[i].Course = code })
			checkError(t, api.ErrUnknown, func(r *api.Registry) { r.Requests[i].Course, r.Requests[i].Instead = code, nil })
			for _, l := range [][]string{{code}, {code, "CH"}, {"CH", code}, {"CH", code, "XY"}} {
				checkError(t, api.ErrUnknown, func(r *api.Registry) { r.Requests[i].Instead = l })
			}
		}
		checkError(t, api.OK, func(r *api.Registry) {
			r.Classes[3].Course, r.Curricula[1].Courses[0], r.Requests[1].Instead[1], r.Requests[2].Instead[0] = code, code, code, code
			r.Requests[0].Course = code
		})
	}
	checkError(t, api.ErrUnknown, func(r *api.Registry) { r.Classes, r.Requests = nil, nil })
	checkError(t, api.ErrUnknown, func(r *api.Registry) { r.Classes, r.Curricula = nil, nil })
	checkError(t, api.OK, func(r *api.Registry) { r.Classes = r.Classes[1:] }) // the exercise is still there
	checkError(t, api.ErrUnknown, func(r *api.Registry) { r.Classes = slices.Delete(r.Classes, 1, 2) })
	checkError(t, api.ErrUnknown, func(r *api.Registry) { r.Classes = r.Classes[:3] })
}

// sorted returns codes in ascending order.
func sorted(l ...string) []string {
	slices.Sort(l)
	return l
}

// P13.1: all sets of faults; the first one decides.
func TestCheckOrder(t *testing.T) {
	faults := []struct {
		e    api.Errno
		harm func(r *api.Registry)
	}{
		{api.ErrRange, func(r *api.Registry) { r.Grid.Minutes = 1 }},
		{api.ErrDate, func(r *api.Registry) { r.Term.First = 3 }},
		{api.ErrSize, func(r *api.Registry) { r.Rooms = make([]api.Room, 17) }},
		{api.ErrInvalid, func(r *api.Registry) { r.Travel.Slots = nil }},
		{api.ErrTime, func(r *api.Registry) { r.Staff[0].Away[0].Length = 11 }},
		{api.ErrEmpty, func(r *api.Registry) { r.Classes[2].Patterns = nil }},
		{api.ErrDuplicate, func(r *api.Registry) { r.Curricula[1].Code = "cs" }},
		{api.ErrCode, func(r *api.Registry) { r.Requests[1].Student = "?" }},
		{api.ErrUnknown, func(r *api.Registry) { r.Staff = r.Staff[:1] }},
		{api.ErrUnknown, func(r *api.Registry) { r.Curricula[0].Courses[0] = "XX" }},
		{api.ErrUnknown, func(r *api.Registry) { r.Requests[0].Course = "XX" }},
	}
	for set := range 1 << len(faults) {
		want := api.OK
		for i, f := range faults {
			if set>>i&1 == 1 && want == api.OK {
				want = f.e
			}
		}
		checkError(t, want, func(r *api.Registry) {
			for i, f := range faults {
				if set>>i&1 == 1 {
					f.harm(r)
				}
			}
		})
	}
}

// P13.1, R2: the registry stays as it is.
func TestCheckMemory(t *testing.T) {
	r := small()
	Check(r)
	checkRegistry(t, r, small())
}
