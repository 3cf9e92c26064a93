package stafffile

import (
	"slices"
	"strconv"
	"strings"
	"testing"

	"timetable/api"
	"timetable/records"
)

func checkWrite(t *testing.T, l []api.Lecturer, want [][]string) {
	t.Helper()
	w, e := Write(l, grid(), tenWeeks)
	if e != api.OK || !slices.EqualFunc(w, want, slices.Equal) {
		t.Errorf("Write(%v) = %v, %d; want %v", l, w, e, want)
	}
}

// P9.3: the fields of lecturers, in their order.
func TestWrite(t *testing.T) {
	checkWrite(t, nil, nil)
	checkWrite(t, []api.Lecturer{}, nil)
	checkWrite(t, []api.Lecturer{
		ada(),
		{Code: "Z"},
		{Code: "A", Away: []api.Time{}},
		{Code: "a", Away: []api.Time{{Weeks: 31, Length: 10}, {Weeks: 71, Day: 1, Start: 2, Length: 3}, {Weeks: 31, Length: 10}}},
	}, [][]string{
		{"ada", "We 1-4;Fr 10 odd"},
		{"Z", ""},
		{"A", ""},
		{"a", "Mo 1-10 first;Tu 3-5 1-3,7;Mo 1-10 first"},
	})
}

// P9.3: the number of weeks tells what is all of them.
func TestWriteWeeks(t *testing.T) {
	l := []api.Lecturer{{Code: "a", Away: []api.Time{{Weeks: 3, Length: 1}}}}
	for weeks, want := range []string{2: "Mo 1", 3: "Mo 1 first", 4: "Mo 1 first", 5: "Mo 1 1-2", 20: "Mo 1 1-2"} {
		if want == "" {
			continue
		}
		if w, e := Write(l, grid(), weeks); e != api.OK || w[0][1] != want {
			t.Errorf("Write in %d weeks: %v, %d; want %q", weeks, w, e, want)
		}
	}
	if w, e := Write(l, grid(), 1); e != api.ErrTime || len(w) > 0 {
		t.Errorf("Write in 1 week: %v, %d", w, e)
	}
}

// P9.3, R2: the lecturers stay as they are, and the rows share no memory.
func TestWriteMemory(t *testing.T) {
	l := []api.Lecturer{ada(), {Code: "b", Away: slices.Repeat([]api.Time{{Weeks: 1, Length: 1}}, 24)}}
	w, _ := Write(l, grid(), tenWeeks)
	_ = append(w[0], "?")
	clear(w[0])
	checkLecturers(t, l[:1], []api.Lecturer{ada()})
	if w[1][0] != "b" || w[1][1] != strings.Repeat("Mo 1 1;", 23)+"Mo 1 1" {
		t.Errorf("Write: %v", w)
	}
}

// sample returns as many lecturers as there can be, with up to MaxTimes times.
func sample() []api.Lecturer {
	l := named(append(numbered(29), "a", "9_-", strings.Repeat("Z", 16))...)
	for i := range l {
		for k := range i % 25 {
			l[i].Away = append(l[i].Away, api.Time{Weeks: 1 + (97*i+331*k)%1023, Day: (i + k) % 5, Start: k % 7, Length: 1 + (i+k)%3})
		}
	}
	return l
}

// The consequence: Read of Write gives the lecturers, through a file as well.
func TestWriteAndRead(t *testing.T) {
	l := sample()
	w, e := Write(l, grid(), tenWeeks)
	if e != api.OK || len(w) != 32 {
		t.Fatalf("Write: %v, %d", w, e)
	}
	var direct []api.Record
	for i, fields := range w {
		direct = append(direct, record(i+1, fields...))
	}
	checkRead(t, direct, l, nil)
	for _, delimiter := range []byte(",;|\t") {
		for _, quote := range []byte("\"'") {
			d := api.Dialect{Delimiter: delimiter, Quote: quote}
			text, e := records.Format(w, d)
			file, problems := records.Parse(text, d)
			if e != api.OK || len(problems) > 0 {
				t.Errorf("file in %v: %d, %v", d, e, problems)
			}
			checkRead(t, file, l, nil)
		}
	}
}

// The consequence, in terms of every length.
func TestWriteAndReadWeeks(t *testing.T) {
	for weeks := 1; weeks <= 20; weeks++ {
		var l []api.Lecturer
		for i := range 32 {
			set := 1 + (i*12347)%(1<<weeks-1)
			l = append(l, api.Lecturer{Code: strconv.Itoa(i), Away: []api.Time{{Weeks: set, Day: i % 5, Start: i % 10, Length: 1}, {Weeks: 1<<weeks - 1, Length: 10}}})
		}
		w, e := Write(l, grid(), weeks)
		var file []api.Record
		for i, fields := range w {
			file = append(file, record(i, fields...))
		}
		staff, p := Read(file, grid(), weeks)
		checkLecturers(t, staff, l)
		if e != api.OK || len(p) > 0 {
			t.Errorf("in %d weeks: %d, %v", weeks, e, p)
		}
	}
}

// The examples of the chapter.
func TestExamples(t *testing.T) {
	file, _ := records.Parse("ada,\"We 1-4;Fr 1\"\nbob,Mo 3 odd\n", api.Dialect{Delimiter: ',', Quote: '"'})
	staff, p := Read(file, grid(), tenWeeks)
	if len(p) > 0 || len(staff) != 2 || len(staff[0].Away) != 2 {
		t.Fatalf("lecturers %v, %v", staff, p)
	}
	odd, even := api.Time{Weeks: 341, Start: 2, Length: 1}, api.Time{Weeks: 682, Start: 2, Length: 1}
	checkFree(t, staff[1].Away, odd, false)
	checkFree(t, staff[1].Away, even, true)
}
