package stafffile

import (
	"slices"
	"strconv"
	"strings"
	"testing"

	"timetable/api"
	"timetable/timegrid"
)

// record returns a record whose fields are in the columns 11, 22, 33 and so on.
func record(line int, fields ...string) api.Record {
	r := api.Record{Line: line}
	for i, s := range fields {
		r.Fields = append(r.Fields, api.Field{Text: s, Column: 11 * (i + 1), Quoted: i%2 == 1})
	}
	return r
}

func checkRead(t *testing.T, l []api.Record, want []api.Lecturer, problems []api.Problem) {
	t.Helper()
	staff, p := Read(l, grid(), tenWeeks)
	checkLecturers(t, staff, want)
	if !slices.Equal(p, problems) {
		t.Errorf("problems %v, want %v", p, problems)
	}
	if e := Valid(staff, grid(), tenWeeks); e != api.OK {
		t.Errorf("the lecturers %v have the error %d", staff, e)
	}
}

// checkProblem checks that a record is left out, with a problem in a column.
func checkProblem(t *testing.T, r api.Record, column int, e api.Errno) {
	t.Helper()
	checkRead(t, []api.Record{r}, nil, []api.Problem{{Line: r.Line, Column: column, Code: e}})
	bob := record(99, "bob", "")
	checkRead(t, []api.Record{bob, r, bob}, named("bob"), []api.Problem{{Line: r.Line, Column: column, Code: e}, {Line: 99, Code: api.ErrDuplicate}})
}

// P9.2: lecturers with and without times.
func TestRead(t *testing.T) {
	checkRead(t, nil, nil, nil)
	checkRead(t, []api.Record{}, nil, nil)
	checkRead(t, []api.Record{
		record(1, "ada", "We 1-4;Fr 10 odd"),
		record(4, "bob", ""),
		record(5, "9-_", "Tu 2-9 all;Mo 1;Mo 1;Fr 10 1-3,7"),
	}, []api.Lecturer{
		ada(),
		{Code: "bob"},
		{Code: "9-_", Away: []api.Time{{Weeks: 1023, Day: 1, Start: 1, Length: 8}, {Weeks: 1023, Length: 1}, {Weeks: 1023, Length: 1}, {Weeks: 71, Day: 4, Start: 9, Length: 1}}},
	}, nil)
}

// P9.2: without a grid or weeks nothing is read.
func TestReadFrame(t *testing.T) {
	check := func(l []api.Record, g api.Grid, weeks int) {
		t.Helper()
		if staff, p := Read(l, g, weeks); len(staff) > 0 || !slices.Equal(p, []api.Problem{{Code: api.ErrInvalid}}) {
			t.Errorf("Read in %v, %d weeks: %v, %v", g, weeks, staff, p)
		}
	}
	for _, l := range [][]api.Record{nil, {record(1, "ada", "Mo 1")}, {record(1, "?"), record(2)}} {
		for _, g := range wrongGrids() {
			check(l, g, tenWeeks)
		}
		for _, weeks := range wrongWeeks() {
			check(l, grid(), weeks)
		}
	}
	for weeks := 1; weeks <= 20; weeks++ {
		staff, p := Read([]api.Record{record(1, "a", "Mo 1;Tu 2 "+strconv.Itoa(weeks)), record(2, "b", "Mo 1 "+strconv.Itoa(weeks+1))}, grid(), weeks)
		checkLecturers(t, staff, []api.Lecturer{{Code: "a", Away: []api.Time{{Weeks: 1<<weeks - 1, Length: 1}, {Weeks: 1 << (weeks - 1), Day: 1, Start: 1, Length: 1}}}})
		if !slices.Equal(p, []api.Problem{{Line: 2, Column: 22, Code: api.ErrRange}}) {
			t.Errorf("problems in %d weeks: %v", weeks, p)
		}
	}
}

// P9.2: other numbers of fields, whatever they say, and wherever they stand.
func TestReadFields(t *testing.T) {
	fields := []string{"ada", "Mo 1", "", "x", "", "", "", "", "", "", "", "", ""}
	for n := range len(fields) + 1 {
		if n != 2 {
			checkProblem(t, record(3, fields[:n]...), 0, api.ErrFields)
			checkProblem(t, record(3, slices.Repeat([]string{"?"}, n)...), 0, api.ErrFields)
		}
	}
	checkProblem(t, record(3, "bob"), 0, api.ErrFields)
	r := record(-5, "a", "?")
	r.Fields[1].Column = -9
	checkRead(t, []api.Record{{Line: -4}, r, {}}, nil, []api.Problem{{Line: -4, Code: api.ErrFields}, {Line: -5, Column: -9, Code: api.ErrForm}, {Code: api.ErrFields}})
}

// P9.2: what is a code, and what is none; its error comes before that of the times.
func TestReadCodes(t *testing.T) {
	for _, s := range rightCodes() {
		checkRead(t, []api.Record{record(7, s, "")}, named(s), nil)
	}
	for _, s := range wrongCodes() {
		checkProblem(t, record(7, s, ""), 11, api.ErrCode)
		checkProblem(t, record(7, s, "x"), 11, api.ErrCode)
	}
}

// P9.2: the first error of the times.
func TestReadAway(t *testing.T) {
	for _, s := range []string{"x", " ", " Mo 1", "Mo 1 ", "Mo", "mo 1", "Mo 0", "Mo 1-", "Sa 1", "Mo 2-1", "Mo 11", "Mo 1 x", "Mo 1 11", "Mo 1 0", "Mo 1,Tu 1", "Mo 1 odd,", "Mo 1 2-1"} {
		_, e := timegrid.Parse(grid(), tenWeeks, s)
		if e == api.OK {
			t.Errorf("timegrid.Parse(%q) has no error", s)
		}
		for _, list := range []string{s, s + ";Mo 1", "Mo 1 odd;" + s, "Mo 1;" + s + ";x"} {
			checkProblem(t, record(7, "a", list), 22, e)
			checkProblem(t, record(7, "bob", list), 22, e)
		}
	}
	for _, s := range []string{";", "Mo 1;", ";Mo 1", "Mo 1;;Tu 1", "Mo 1; Tu 1", "Mo 1 ;Tu 1", strings.Repeat(";", 100000)} {
		checkProblem(t, record(7, "a", s), 22, api.ErrForm)
	}
	checkProblem(t, record(7, "a", "Sa 1;x"), 22, api.ErrTime)
	checkProblem(t, record(7, "a", "x;Sa 1"), 22, api.ErrForm)
	if staff, p := Read([]api.Record{record(2, "a", "Mo 1 even;Mo 1 odd")}, grid(), 1); len(staff) > 0 || !slices.Equal(p, []api.Problem{{Line: 2, Column: 22, Code: api.ErrEmpty}}) {
		t.Errorf("even weeks of one: %v, %v", staff, p)
	}
}

// P9.2: the number of times; an error of a time comes before it, wherever it stands.
func TestReadManyAway(t *testing.T) {
	for n := 1; n <= 30; n++ {
		l := slices.Repeat([]string{"Mo 1 odd"}, n)
		if n <= 24 {
			checkRead(t, []api.Record{record(7, "a", strings.Join(l, ";"))}, []api.Lecturer{{Code: "a", Away: slices.Repeat([]api.Time{{Weeks: 341, Length: 1}}, n)}}, nil)
		} else {
			checkProblem(t, record(7, "a", strings.Join(l, ";")), 22, api.ErrSize)
			checkProblem(t, record(7, "bob", strings.Join(l, ";")), 22, api.ErrSize)
		}
		for i := range l {
			l[i] = "Mo 11"
			checkProblem(t, record(7, "a", strings.Join(l, ";")), 22, api.ErrTime)
			l[i] = "Mo 1 odd"
		}
	}
}

// P9.2: a code counts as read only where the lecturer was read; the first one stays.
func TestReadDuplicate(t *testing.T) {
	checkRead(t, []api.Record{
		record(1, "ada", "x"),
		record(2, "ada", "We 1-4;Fr 10 odd"),
		record(3, "ada", ""),
		record(4, "bob", ""),
		record(5, "ada", "We 1-4;Fr 10 odd"),
		record(6, "bob", "Mo 1"),
		record(7, "bob", "Mo 11"),
		record(8, "bob"),
		record(9, "Bob", ""),
		record(10, "bob0", ""),
		record(11, "bob00", ""),
	}, append([]api.Lecturer{ada()}, named("bob", "Bob", "bob0", "bob00")...), []api.Problem{
		{Line: 1, Column: 22, Code: api.ErrForm},
		{Line: 3, Code: api.ErrDuplicate},
		{Line: 5, Code: api.ErrDuplicate},
		{Line: 6, Code: api.ErrDuplicate},
		{Line: 7, Column: 22, Code: api.ErrTime},
		{Line: 8, Code: api.ErrFields},
	})
}

// P9.2: no more than MaxStaff lecturers; those that are left out do not count.
func TestReadSize(t *testing.T) {
	var l []api.Record
	var problems []api.Problem
	for i, code := range numbered(36) {
		l = append(l, record(10*i, code, ""), record(10*i+1, code, "Mo 1"), record(10*i+2, code, ";"))
		if i < 32 {
			problems = append(problems, api.Problem{Line: 10*i + 1, Code: api.ErrDuplicate})
		} else {
			problems = append(problems, api.Problem{Line: 10 * i, Code: api.ErrSize}, api.Problem{Line: 10*i + 1, Code: api.ErrSize})
		}
		problems = append(problems, api.Problem{Line: 10*i + 2, Column: 22, Code: api.ErrForm})
	}
	l = append(l, record(500, "s0", ""), record(501, "?", ""), record(502))
	problems = append(problems, api.Problem{Line: 500, Code: api.ErrDuplicate}, api.Problem{Line: 501, Column: 11, Code: api.ErrCode}, api.Problem{Line: 502, Code: api.ErrFields})
	checkRead(t, l, named(numbered(32)...), problems)
}

// P9.2, R2: the records stay as they are, and lecturers share no memory with each other.
func TestReadMemory(t *testing.T) {
	l := []api.Record{record(1, "a", "Mo 1;Mo 2"), record(2, "b", "Mo 1;Mo 2")}
	staff, _ := Read(l, grid(), tenWeeks)
	if l[0].Fields[1].Text != "Mo 1;Mo 2" || l[1].Line != 2 || len(staff) != 2 {
		t.Fatalf("after Read: %v, %v", l, staff)
	}
	staff[0].Away[0] = api.Time{}
	_ = append(staff[0].Away, api.Time{})
	again, _ := Read(l, grid(), tenWeeks)
	checkLecturers(t, staff[1:], again[1:])
	if again[0].Away[0].Length != 1 {
		t.Errorf("second reading: %v", again)
	}
}
