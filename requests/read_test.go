package requests

import (
	"slices"
	"strconv"
	"strings"
	"testing"

	"timetable/api"
	"timetable/codes"
)

// record returns a record whose fields are in the columns 11, 22, 33 and so on.
func record(line int, fields ...string) api.Record {
	r := api.Record{Line: line}
	for i, s := range fields {
		r.Fields = append(r.Fields, api.Field{Text: s, Column: 11 * (i + 1), Quoted: i%2 == 1})
	}
	return r
}

func checkRead(t *testing.T, l []api.Record, want []api.Request, problems []api.Problem) {
	t.Helper()
	requests, p := Read(l)
	checkRequests(t, requests, want)
	if !slices.Equal(p, problems) {
		t.Errorf("problems %v, want %v", p, problems)
	}
	if e := Valid(requests); e != api.OK {
		t.Errorf("the requests %v have the error %d", requests, e)
	}
}

// checkProblem checks that a record is left out, with a problem in a column.
func checkProblem(t *testing.T, r api.Record, column int, e api.Errno) {
	t.Helper()
	checkRead(t, []api.Record{r}, nil, []api.Problem{{Line: r.Line, Column: column, Code: e}})
	bob := record(99, "bob", "MA", "1", "")
	checkRead(t, []api.Record{bob, r, bob}, named("bob"), []api.Problem{{Line: r.Line, Column: column, Code: e}, {Line: 99, Code: api.ErrDuplicate}})
}

// P12.2: courses instead stay in the order in which they stand.
func TestRead(t *testing.T) {
	checkRead(t, nil, nil, nil)
	checkRead(t, []api.Record{}, nil, nil)
	checkRead(t, []api.Record{
		record(1, "ada", "PH", "3", "MB;MA1..MA3"),
		record(4, "bob", "MA", "1", ""),
		record(5, "9-_", "D", "9", "c;b;a;C;B;A;2;1"),
		record(6, "ada", "MB", "3", "PH"),
		record(7, "a", "x12", "5", "x08..x11;a;9;x07"),
	}, []api.Request{
		ada(),
		{Student: "bob", Course: "MA", Priority: 1},
		{Student: "9-_", Course: "D", Priority: 9, Instead: []string{"c", "b", "a", "C", "B", "A", "2", "1"}},
		{Student: "ada", Course: "MB", Priority: 3, Instead: []string{"PH"}},
		{Student: "a", Course: "x12", Priority: 5, Instead: []string{"x08", "x09", "x10", "x11", "a", "9", "x07"}},
	}, nil)
}

// P12.2: other numbers of fields, whatever they say, and wherever they stand.
func TestReadFields(t *testing.T) {
	fields := []string{"ada", "MA", "1", "", "", "", "", "", "", "", "", "", ""}
	for n := range len(fields) + 1 {
		if n != 4 {
			checkProblem(t, record(3, fields[:n]...), 0, api.ErrFields)
			checkProblem(t, record(3, slices.Repeat([]string{"?"}, n)...), 0, api.ErrFields)
		}
	}
	checkProblem(t, record(3, "bob", "MA", "1"), 0, api.ErrFields)
	r := record(-5, "a", "b", "1", "?")
	r.Fields[3].Column = -9
	checkRead(t, []api.Record{{Line: -4}, r, {}}, nil, []api.Problem{{Line: -4, Code: api.ErrFields}, {Line: -5, Column: -9, Code: api.ErrCode}, {Code: api.ErrFields}})
}

// P12.2: what is a code, and what is none; an error of a field comes before those of the next ones.
func TestReadCodes(t *testing.T) {
	for _, s := range rightCodes() {
		checkRead(t, []api.Record{record(7, s, "MA", "1", "")}, named(s), nil)
		checkRead(t, []api.Record{record(7, "x", s, "2", "")}, []api.Request{{Student: "x", Course: s, Priority: 2}}, nil)
		checkRead(t, []api.Record{record(7, s, s, "2", "")}, []api.Request{{Student: s, Course: s, Priority: 2}}, nil)
		checkRead(t, []api.Record{record(7, "x", "y", "2", s)}, []api.Request{{Student: "x", Course: "y", Priority: 2, Instead: []string{s}}}, nil)
	}
	for _, s := range wrongCodes() {
		checkProblem(t, record(7, s, "MA", "1", ""), 11, api.ErrCode)
		checkProblem(t, record(7, s, s, "", ";"), 11, api.ErrCode)
		checkProblem(t, record(7, "x", s, "1", ""), 22, api.ErrCode)
		checkProblem(t, record(7, "x", s, "0", s+";"), 22, api.ErrCode)
		checkProblem(t, record(7, "bob", s, "1", ""), 22, api.ErrCode)
	}
}

// P12.2: a priority is one digit from 1 to 9; its error comes before that of the courses.
func TestReadPriority(t *testing.T) {
	var right []string
	for n := 1; n <= 9; n++ {
		s := strconv.Itoa(n)
		right = append(right, s)
		checkRead(t, []api.Record{record(7, "a", "b", s, "")}, []api.Request{{Student: "a", Course: "b", Priority: n}}, nil)
	}
	wrong := []string{"", "0", "00", "01", "10", "11", "99", "1 ", " 1", "+1", "-1", "1.", "1;", "1-2", "1e0", "one", "\u0661", "1\n", "1\x00", "111111111111111111111", strings.Repeat("1", 1000)}
	for c := range 256 {
		if s := string([]byte{byte(c)}); !slices.Contains(right, s) {
			wrong = append(wrong, s)
		}
	}
	for _, s := range wrong {
		checkProblem(t, record(7, "a", "b", s, ""), 33, api.ErrForm)
		checkProblem(t, record(7, "a", "b", s, "?"), 33, api.ErrForm)
		checkProblem(t, record(7, "bob", "MA", s, "MA"), 33, api.ErrForm)
	}
}

// P12.2: the error of the courses instead, also where one of them is the course.
func TestReadInstead(t *testing.T) {
	for _, s := range []string{";", "a;", ";a", "a;;b", "a..b..c", "?", "a;?", "a b", "..", "a..", "..a", "a1..a", "a2..a1", "a1..b2", "a;a", "a;b;a", "a1..a3;a2", "a;a;?", "a;a;", "?;a;a", "c1..c64;c1", "c1..c65", "c1..c65;?", "c1..c64;?", "c1..c9;c1", "c1..c9;?", "c1..c9;", strings.Repeat(";", 100000)} {
		_, e := codes.List(s)
		if e == api.OK {
			t.Errorf("codes.List(%.80q) has no error", s)
		}
		for _, course := range []string{"b", "a", "a1", "c1", "c9"} {
			checkProblem(t, record(7, "s", course, "1", s), 44, e)
		}
		checkProblem(t, record(7, "bob", "MA", "1", s), 44, e)
	}
}

// P12.2: the number of courses instead, which comes before the course among them.
func TestReadManyInstead(t *testing.T) {
	for n := 1; n <= 64; n++ {
		l := numbered("c", n)
		for _, s := range []string{strings.Join(l, ";"), l[0] + ".." + l[n-1]} {
			if n <= 8 {
				checkRead(t, []api.Record{record(7, "a", "b", "1", s)}, []api.Request{{Student: "a", Course: "b", Priority: 1, Instead: l}}, nil)
				checkProblem(t, record(7, "a", l[0], "1", s), 44, api.ErrDuplicate)
				checkProblem(t, record(7, "a", l[n-1], "1", s), 44, api.ErrDuplicate)
			} else {
				checkProblem(t, record(7, "a", "b", "1", s), 44, api.ErrSize)
				checkProblem(t, record(7, "a", l[0], "1", s), 44, api.ErrSize)
				checkProblem(t, record(7, "bob", "MA", "1", s), 44, api.ErrSize)
			}
		}
	}
}

// P12.2: the course does not stand among those instead; it is that of the same record.
func TestReadInsteadCourse(t *testing.T) {
	l := numbered("c", 8)
	for _, course := range l {
		checkProblem(t, record(7, "a", course, "1", "c10..c17"), 44, api.ErrDuplicate)
		checkProblem(t, record(7, "a", course, "1", course), 44, api.ErrDuplicate)
		checkProblem(t, record(7, "a", course, "1", "x;"+course), 44, api.ErrDuplicate)
	}
	checkProblem(t, record(7, "bob", "MA", "1", "MA"), 44, api.ErrDuplicate)
	checkRead(t, []api.Record{record(1, "a", "c1", "1", "c01;C1;c;a;c10"), record(2, "a", "c2", "1", "c1"), record(3, "a", "c3", "1", "c1..c2")}, []api.Request{
		{Student: "a", Course: "c1", Priority: 1, Instead: []string{"c01", "C1", "c", "a", "c10"}},
		{Student: "a", Course: "c2", Priority: 1, Instead: []string{"c1"}},
		{Student: "a", Course: "c3", Priority: 1, Instead: []string{"c1", "c2"}},
	}, nil)
}

// P12.2: student and course count as read only where the request was read; the first one stays.
func TestReadDuplicate(t *testing.T) {
	checkRead(t, []api.Record{
		record(1, "ada", "PH", "3", "?"),
		record(2, "ada", "PH", "3", "MB;MA1..MA3"),
		record(3, "ada", "PH", "1", ""),
		record(4, "bob", "MA", "1", ""),
		record(5, "ada", "PH", "3", "MB;MA1..MA3"),
		record(6, "bob", "MA", "9", "PH"),
		record(7, "bob", "MA", "0", ""),
		record(8, "bob", "MA", "1"),
		record(9, "bob", "MA", "1", "MA"),
		record(10, "Bob", "MA", "1", ""),
		record(11, "bob0", "MA", "1", ""),
		record(12, "bob00", "MA", "1", ""),
		record(13, "MA", "MA", "1", ""),
		record(14, "bob", "PH", "2", ""),
		record(15, "MA", "bob", "2", ""),
		record(16, "bo", "bMA", "2", ""),
	}, append(append([]api.Request{ada()}, named("bob", "Bob", "bob0", "bob00", "MA")...),
		api.Request{Student: "bob", Course: "PH", Priority: 2},
		api.Request{Student: "MA", Course: "bob", Priority: 2},
		api.Request{Student: "bo", Course: "bMA", Priority: 2},
	), []api.Problem{
		{Line: 1, Column: 44, Code: api.ErrCode},
		{Line: 3, Code: api.ErrDuplicate},
		{Line: 5, Code: api.ErrDuplicate},
		{Line: 6, Code: api.ErrDuplicate},
		{Line: 7, Column: 33, Code: api.ErrForm},
		{Line: 8, Code: api.ErrFields},
		{Line: 9, Column: 44, Code: api.ErrDuplicate},
	})
}

// recordOf returns the record of a request without courses instead.
func recordOf(line int, r api.Request) api.Record {
	return record(line, r.Student, r.Course, strconv.Itoa(r.Priority), "")
}

// P12.2: no more than MaxRecords requests; those that are left out do not count.
func TestReadSize(t *testing.T) {
	for _, students := range []int{1, 7, 64} {
		var l []api.Record
		var problems []api.Problem
		for i, r := range many(410, students) {
			l = append(l, recordOf(10*i, r), recordOf(10*i+1, r), record(10*i+2, r.Student, r.Course, "1", ";"))
			if i < 400 {
				problems = append(problems, api.Problem{Line: 10*i + 1, Code: api.ErrDuplicate})
			} else {
				problems = append(problems, api.Problem{Line: 10 * i, Code: api.ErrSize}, api.Problem{Line: 10*i + 1, Code: api.ErrSize})
			}
			problems = append(problems, api.Problem{Line: 10*i + 2, Column: 44, Code: api.ErrForm})
		}
		l = append(l, record(5000, "s0", "c0", "1", ""), record(5001, "x", "MA", "1", ""), record(5002, "?", "MA", "1", ""), record(5003), record(5004, "x", "MA", "1", "MA"))
		problems = append(problems, api.Problem{Line: 5000, Code: api.ErrDuplicate}, api.Problem{Line: 5001, Code: api.ErrSize}, api.Problem{Line: 5002, Column: 11, Code: api.ErrCode}, api.Problem{Line: 5003, Code: api.ErrFields}, api.Problem{Line: 5004, Column: 44, Code: api.ErrDuplicate})
		checkRead(t, l, many(400, students), problems)
	}
}

// P12.2: no more than MaxStudents students; those whose requests are all left out do not count.
func TestReadStudents(t *testing.T) {
	var l []api.Record
	var problems []api.Problem
	for i, student := range numbered("s", 70) {
		l = append(l, record(10*i, "x"+student, "MA", "0", ""), record(10*i+1, student, "MA", "1", ""), record(10*i+2, student, "MA", "1", ""), record(10*i+3, "s10", "MA", "2", "PH"))
		problems = append(problems, api.Problem{Line: 10 * i, Column: 33, Code: api.ErrForm})
		if i < 64 {
			problems = append(problems, api.Problem{Line: 10*i + 2, Code: api.ErrDuplicate})
		} else {
			problems = append(problems, api.Problem{Line: 10*i + 1, Code: api.ErrSize}, api.Problem{Line: 10*i + 2, Code: api.ErrSize})
		}
		problems = append(problems, api.Problem{Line: 10*i + 3, Code: api.ErrDuplicate})
	}
	want := named(numbered("s", 64)...)
	// Students who were read can go on; the others are still too many.
	for i, student := range numbered("s", 70) {
		l = append(l, record(1000+i, student, "PH", "2", ""))
		if i < 64 {
			want = append(want, api.Request{Student: student, Course: "PH", Priority: 2})
		} else {
			problems = append(problems, api.Problem{Line: 1000 + i, Code: api.ErrSize})
		}
	}
	l = append(l, record(2000, "x", "MA", "1", "MA"), record(2001, "x", "MA", "1"))
	problems = append(problems, api.Problem{Line: 2000, Column: 44, Code: api.ErrDuplicate}, api.Problem{Line: 2001, Code: api.ErrFields})
	checkRead(t, l, want, problems)
}

// P12.2, R2: the records stay as they are, and requests share no memory with each other.
func TestReadMemory(t *testing.T) {
	l := []api.Record{record(1, "a", "b", "1", "PH;MA"), record(2, "b", "b", "1", "PH;MA")}
	requests, _ := Read(l)
	if l[0].Fields[3].Text != "PH;MA" || l[1].Line != 2 || len(requests) != 2 {
		t.Fatalf("after Read: %v, %v", l, requests)
	}
	requests[0].Instead[0] = "x"
	_ = append(requests[0].Instead, "x")
	again, _ := Read(l)
	checkRequests(t, requests[1:], again[1:])
	if again[0].Instead[0] != "PH" {
		t.Errorf("second reading: %v", again)
	}
}
