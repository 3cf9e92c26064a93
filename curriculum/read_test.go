package curriculum

import (
	"slices"
	"strings"
	"testing"

	"timetable/api"
	"timetable/codes"
)

// record returns a record whose fields are in the columns 11, 22, 33 and so on.
func record(line int, fields ...string) api.Record {
	r := api.Record{Line: line}
	for i, s := range fields {
		r.Fields = append(r.Fields, api.Field{Text: s, Column: 11 * (i + 1), Quoted: i%2 == 1})
	}
	return r
}

func checkRead(t *testing.T, l []api.Record, want []api.Curriculum, problems []api.Problem) {
	t.Helper()
	curricula, p := Read(l)
	checkCurricula(t, curricula, want)
	if !slices.Equal(p, problems) {
		t.Errorf("problems %v, want %v", p, problems)
	}
	if e := Valid(curricula); e != api.OK {
		t.Errorf("the curricula %q have the error %d", curricula, e)
	}
}

// checkProblem checks that a record is left out, with a problem in a column.
func checkProblem(t *testing.T, r api.Record, column int, e api.Errno) {
	t.Helper()
	checkRead(t, []api.Record{r}, nil, []api.Problem{{Line: r.Line, Column: column, Code: e}})
	phy := record(99, "phy", "MA")
	checkRead(t, []api.Record{phy, r, phy}, named("phy"), []api.Problem{{Line: r.Line, Column: column, Code: e}, {Line: 99, Code: api.ErrDuplicate}})
}

// P11.2: courses stay in the order in which they stand.
func TestRead(t *testing.T) {
	checkRead(t, nil, nil, nil)
	checkRead(t, []api.Record{}, nil, nil)
	checkRead(t, []api.Record{
		record(1, "cs", "PH;MA1..MA3"),
		record(4, "phy", "MA"),
		record(5, "9-_", "c;b;a;C;B;A;2;1"),
		record(6, "a", "x08..x11;a;9;x07"),
	}, []api.Curriculum{
		cs(),
		{Code: "phy", Courses: []string{"MA"}},
		{Code: "9-_", Courses: []string{"c", "b", "a", "C", "B", "A", "2", "1"}},
		{Code: "a", Courses: []string{"x08", "x09", "x10", "x11", "a", "9", "x07"}},
	}, nil)
}

// P11.2: other numbers of fields, whatever they say, and wherever they stand.
func TestReadFields(t *testing.T) {
	fields := []string{"cs", "MA", "", "x", "", "", "", "", "", "", "", "", ""}
	for n := range len(fields) + 1 {
		if n != 2 {
			checkProblem(t, record(3, fields[:n]...), 0, api.ErrFields)
			checkProblem(t, record(3, slices.Repeat([]string{"?"}, n)...), 0, api.ErrFields)
		}
	}
	checkProblem(t, record(3, "phy"), 0, api.ErrFields)
	r := record(-5, "a", "?")
	r.Fields[1].Column = -9
	checkRead(t, []api.Record{{Line: -4}, r, {}}, nil, []api.Problem{{Line: -4, Code: api.ErrFields}, {Line: -5, Column: -9, Code: api.ErrCode}, {Code: api.ErrFields}})
}

// P11.2: what is a code, and what is none; its error comes before that of the courses.
func TestReadCodes(t *testing.T) {
	for _, s := range rightCodes() {
		checkRead(t, []api.Record{record(7, s, "MA")}, named(s), nil)
		checkRead(t, []api.Record{record(7, "x", s)}, []api.Curriculum{{Code: "x", Courses: []string{s}}}, nil)
	}
	for _, s := range wrongCodes() {
		checkProblem(t, record(7, s, "MA"), 11, api.ErrCode)
		checkProblem(t, record(7, s, ""), 11, api.ErrCode)
		checkProblem(t, record(7, s, ";"), 11, api.ErrCode)
	}
}

// P11.2: the error of the courses.
func TestReadCourses(t *testing.T) {
	for _, s := range []string{";", "a;", ";a", "a;;b", "a..b..c", "?", "a;?", "a b", "..", "a..", "..a", "a1..a", "a2..a1", "a1..b2", "a;a", "a;b;a", "a1..a3;a2", "a;a;?", "a;a;", "?;a;a", "c1..c64;c1", "c1..c65", "c1..c65;?", "c1..c64;?", "c1..c9;c1", "c1..c9;?", "c1..c9;", strings.Repeat(";", 100000)} {
		_, e := codes.List(s)
		if e == api.OK {
			t.Errorf("codes.List(%.80q) has no error", s)
		}
		checkProblem(t, record(7, "a", s), 22, e)
		checkProblem(t, record(7, "phy", s), 22, e)
	}
	checkProblem(t, record(7, "a", ""), 22, api.ErrEmpty)
	checkProblem(t, record(7, "phy", ""), 22, api.ErrEmpty)
}

// P11.2: the number of courses.
func TestReadManyCourses(t *testing.T) {
	for n := 1; n <= 64; n++ {
		l := numbered("c", n)
		for _, s := range []string{strings.Join(l, ";"), l[0] + ".." + l[n-1]} {
			if n <= 8 {
				checkRead(t, []api.Record{record(7, "a", s)}, []api.Curriculum{{Code: "a", Courses: l}}, nil)
			} else {
				checkProblem(t, record(7, "a", s), 22, api.ErrSize)
				checkProblem(t, record(7, "phy", s), 22, api.ErrSize)
			}
		}
	}
}

// P11.2: a code counts as read only where the curriculum was read; the first one stays.
func TestReadDuplicate(t *testing.T) {
	checkRead(t, []api.Record{
		record(1, "cs", "?"),
		record(2, "cs", "PH;MA1..MA3"),
		record(3, "cs", "MA"),
		record(4, "phy", "MA"),
		record(5, "cs", "PH;MA1..MA3"),
		record(6, "phy", "PH"),
		record(7, "phy", ""),
		record(8, "phy"),
		record(9, "Phy", "MA"),
		record(10, "phy0", "MA"),
		record(11, "phy00", "MA"),
		record(12, "MA", "MA"),
	}, append([]api.Curriculum{cs()}, named("phy", "Phy", "phy0", "phy00", "MA")...), []api.Problem{
		{Line: 1, Column: 22, Code: api.ErrCode},
		{Line: 3, Code: api.ErrDuplicate},
		{Line: 5, Code: api.ErrDuplicate},
		{Line: 6, Code: api.ErrDuplicate},
		{Line: 7, Column: 22, Code: api.ErrEmpty},
		{Line: 8, Code: api.ErrFields},
	})
}

// P11.2: no more than MaxCurricula; those that are left out do not count.
func TestReadSize(t *testing.T) {
	var l []api.Record
	var problems []api.Problem
	for i, code := range numbered("c", 20) {
		l = append(l, record(10*i, code, "MA"), record(10*i+1, code, "PH"), record(10*i+2, code, ";"))
		if i < 16 {
			problems = append(problems, api.Problem{Line: 10*i + 1, Code: api.ErrDuplicate})
		} else {
			problems = append(problems, api.Problem{Line: 10 * i, Code: api.ErrSize}, api.Problem{Line: 10*i + 1, Code: api.ErrSize})
		}
		problems = append(problems, api.Problem{Line: 10*i + 2, Column: 22, Code: api.ErrForm})
	}
	l = append(l, record(500, "c10", "MA"), record(501, "?", "MA"), record(502), record(503, "x", ""))
	problems = append(problems, api.Problem{Line: 500, Code: api.ErrDuplicate}, api.Problem{Line: 501, Column: 11, Code: api.ErrCode}, api.Problem{Line: 502, Code: api.ErrFields}, api.Problem{Line: 503, Column: 22, Code: api.ErrEmpty})
	checkRead(t, l, named(numbered("c", 16)...), problems)
}

// P11.2, R2: the records stay as they are, and curricula share no memory with each other.
func TestReadMemory(t *testing.T) {
	l := []api.Record{record(1, "a", "PH;MA"), record(2, "b", "PH;MA")}
	curricula, _ := Read(l)
	if l[0].Fields[1].Text != "PH;MA" || l[1].Line != 2 || len(curricula) != 2 {
		t.Fatalf("after Read: %v, %q", l, curricula)
	}
	curricula[0].Courses[0] = "x"
	_ = append(curricula[0].Courses, "x")
	again, _ := Read(l)
	checkCurricula(t, curricula[1:], again[1:])
	if again[0].Courses[0] != "PH" {
		t.Errorf("second reading: %q", again)
	}
}
