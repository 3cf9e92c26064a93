package registry

import (
	"fmt"
	"slices"
	"strings"
	"testing"

	"timetable/api"
	"timetable/travel"
)

func checkStore(t *testing.T, r api.Registry, want []string, e api.Errno) {
	t.Helper()
	if files, err := Store(r); !slices.Equal(files, want) || err != e {
		t.Errorf("Store(%s) = %q, %d; want %q, %d", shown(r), files, err, want, e)
	}
}

// P13.3: six texts, each with what its file says.
func TestStore(t *testing.T) {
	checkStore(t, small(), smallFiles(), api.OK)
	checkStore(t, api.Registry{Grid: grid(), Term: term()}, make([]string, 6), api.OK)
	for i := range 6 {
		r, want := small(), make([]string, 6)
		alone := api.Registry{Grid: r.Grid, Term: r.Term}
		switch i + 1 {
		case api.FileRooms:
			alone.Rooms = r.Rooms
		case api.FileTravel:
			alone.Travel = r.Travel
		case api.FileStaff:
			alone.Staff = r.Staff
		case api.FileClasses:
			r.Classes[0].Staff, r.Classes[1].Staff, r.Classes[2].Staff = nil, nil, nil
			alone.Classes = r.Classes
		default:
			continue
		}
		want[i] = strings.NewReplacer("ada,Mo", ",Mo", "ada;bob", "", ",bob,\nS", ",,\nS").Replace(smallFiles()[i])
		checkStore(t, alone, want, api.OK)
	}
}

// P13.3: the grid and the term tell how times are written.
func TestStoreWeeks(t *testing.T) {
	r := small()
	r.Term.Weeks = 11
	want := smallFiles()
	want[0] = "R1,B,30,beamer;lab,\"Mo 1-2 1,3,5,7,9\"\nR2,C,20,,\n"
	want[2] = "ada,We 1-4 1-10\nbob,\n"
	want[3] = strings.NewReplacer("all", "1-10", "odd/even", "\"1,3,5,7,9/even\"").Replace(want[3])
	checkStore(t, r, want, api.OK)
}

// long returns a code of n bytes in which no number stands at the end, so that no range hides it.
func long(i, n int) string { return fmt.Sprintf("%02d", i) + strings.Repeat("x", n-2) }

// wide returns a registry with n requests that take 172 bytes each: ten courses for each student.
func wide(n int) api.Registry {
	r := api.Registry{Grid: grid(), Term: term()}
	for i := range 20 {
		r.Classes = append(r.Classes, api.Class{Code: long(i, 5), Course: long(i, 16), Part: "p", Length: 1, Patterns: []int{1}})
	}
	for i := range n {
		q := api.Request{Student: long(i/10, 16), Course: long(i%10, 16), Priority: 1}
		for k := range 8 {
			q.Instead = append(q.Instead, long(10+k, 16))
		}
		r.Requests = append(r.Requests, q)
	}
	return r
}

// P13.3: the greatest file, and one byte more.
func TestStoreSize(t *testing.T) {
	r := wide(382)
	few, more := &r.Requests[380], &r.Requests[381]
	few.Student, few.Instead = long(99, 8), few.Instead[:3]
	more.Student, more.Instead = long(99, 9), more.Instead[:4]
	files, e := Store(r)
	if e != api.OK || len(files) != 6 || len(files[5]) != api.MaxFile {
		t.Fatalf("Store of %d bytes: %d", api.MaxFile, e)
	}
	checkLoad(t, files, r, nil)
	few.Student = long(98, 9)
	checkStore(t, r, nil, api.ErrSize)
	checkStore(t, wide(382), nil, api.ErrSize)
	full := wide(400)
	checkStore(t, full, nil, api.ErrSize)
	full.Requests[399].Instead[7] = "XX"
	checkStore(t, full, nil, api.ErrUnknown)
}

// P13.3, R2: the registry stays as it is, and every call has a result of its own.
func TestStoreMemory(t *testing.T) {
	r := small()
	files, _ := Store(r)
	clear(files)
	checkStore(t, r, smallFiles(), api.OK)
	checkRegistry(t, r, small())
}

// full returns a registry with as many entries as there may be.
func full() api.Registry {
	r := api.Registry{Grid: api.Grid{Days: 7, Slots: 24, Minutes: 60}, Term: api.Term{First: 9, Weeks: 20, Holidays: []int{10, 148}}}
	times := func(n int) (l []api.Time) {
		for i := range n % 25 {
			l = append(l, api.Time{Weeks: 1 + n*7919*(i+1)%(1<<20-1), Day: i % 7, Start: i % 12, Length: 1 + n%12})
		}
		return l
	}
	some := func(prefix string, of, n, count int) (l []string) {
		for i := range count {
			l = append(l, fmt.Sprint(prefix, 10+(n+i)%of))
		}
		return l
	}
	for i := range api.MaxRooms {
		r.Rooms = append(r.Rooms, api.Room{Code: fmt.Sprint("R", i), Building: fmt.Sprint("B", i%9), Seats: 1 + i*600, Features: sorted(some("f", 20, i, i%9)...), Closed: times(i)})
	}
	for i := range api.MaxBuildings {
		r.Travel.Buildings = append(r.Travel.Buildings, fmt.Sprint("B", i))
		row := make([]int, api.MaxBuildings)
		for k := range row {
			row[k] = (i + k) * (i - k) * (i - k) % 25
		}
		r.Travel.Slots = append(r.Travel.Slots, row)
	}
	for i := range api.MaxStaff {
		r.Staff = append(r.Staff, api.Lecturer{Code: fmt.Sprint("t", 10+i), Away: times(i)})
	}
	for i := range api.MaxClasses {
		c := api.Class{Code: fmt.Sprint("L", i), Course: fmt.Sprint("C", 10+i%12), Part: fmt.Sprint("p", i/18), Length: 1 + i, Seats: i * 400, Features: sorted(some("f", 20, i, i%9)...), Staff: sorted(some("t", 32, i*3, i%9)...)}
		for k := range 1 + i%8 {
			c.Patterns = append(c.Patterns, 1<<k)
		}
		for k := range 24 - i {
			c.Starts = append(c.Starts, api.Start{Day: i % 7, Slot: k})
		}
		r.Classes = append(r.Classes, c)
	}
	for i := range api.MaxCurricula {
		r.Curricula = append(r.Curricula, api.Curriculum{Code: fmt.Sprint("cur", i), Courses: some("C", 12, i, 1+i%8)})
	}
	for i := range api.MaxRecords {
		r.Requests = append(r.Requests, api.Request{Student: fmt.Sprint("s", i%64), Course: fmt.Sprint("C", 10+i/64), Priority: 1 + i%9, Instead: some("C", 12, i/64+1, i%9)})
	}
	return r
}

// The consequence: Load of Store is the registry.
func TestLoadOfStore(t *testing.T) {
	for _, r := range []api.Registry{small(), full(), {Grid: grid(), Term: term()}, {Grid: grid(), Term: api.Term{First: 2, Weeks: 1}}} {
		if e := Check(r); e != api.OK {
			t.Fatalf("Check = %d", e)
		}
		files, e := Store(r)
		if e != api.OK {
			t.Fatalf("Store = %d", e)
		}
		checkLoad(t, files, r, nil)
	}
}

// The consequence: buildings may come back in another order, those without a way not at all, but the ways stay.
func TestLoadOfStoreTravel(t *testing.T) {
	r := small()
	r.Travel = api.Travel{Buildings: []string{"A", "B", "C", "D", "E"}, Slots: [][]int{
		{0, -1, -1, 3, -1},
		{-1, 0, -1, 0, -1},
		{-1, -1, 0, -1, -1},
		{3, 0, -1, 0, 24},
		{-1, -1, -1, 24, 0},
	}}
	files, e := Store(r)
	if e != api.OK || files[1] != "A,D,3\nB,D,0\nD,E,24\n" {
		t.Fatalf("Store: %q, %d", files, e)
	}
	got, problems := Load(files, r.Grid, r.Term)
	if len(problems) > 0 || !slices.Equal(got.Travel.Buildings, []string{"A", "D", "B", "E"}) {
		t.Errorf("%v, problems %v", got.Travel, problems)
	}
	for _, a := range r.Travel.Buildings {
		for _, b := range r.Travel.Buildings {
			if travel.Between(got.Travel, a, b) != travel.Between(r.Travel, a, b) {
				t.Errorf("from %s to %s: %v", a, b, got.Travel)
			}
		}
	}
	got.Travel = r.Travel
	checkRegistry(t, got, r)
}
