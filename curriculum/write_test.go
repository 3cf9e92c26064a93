package curriculum

import (
	"slices"
	"strings"
	"testing"

	"timetable/api"
	"timetable/records"
)

func checkWrite(t *testing.T, l []api.Curriculum, want [][]string) {
	t.Helper()
	w, e := Write(l)
	if e != api.OK || !slices.EqualFunc(w, want, slices.Equal) {
		t.Errorf("Write(%q) = %q, %d; want %q", l, w, e, want)
	}
}

// P11.2: the fields of curricula, in their order.
func TestWrite(t *testing.T) {
	checkWrite(t, nil, nil)
	checkWrite(t, []api.Curriculum{}, nil)
	checkWrite(t, []api.Curriculum{
		cs(),
		{Code: "Z", Courses: []string{"MA"}},
		{Code: "A", Courses: []string{"c", "b", "a2", "a1", "B", "9"}},
		{Code: "a", Courses: []string{"x08", "x09", "x10", "x11", "a", "x12", "x13", "x14"}},
	}, [][]string{
		{"cs", "PH;MA1..MA3"},
		{"Z", "MA"},
		{"A", "c;b;a2;a1;B;9"},
		{"a", "x08..x11;a;x12..x14"},
	})
}

// P11.2, R2: the curricula stay as they are, and the rows share no memory.
func TestWriteMemory(t *testing.T) {
	l := []api.Curriculum{cs(), {Code: "b", Courses: []string{"PH", "MA"}}}
	w, _ := Write(l)
	_ = append(w[0], "?")
	clear(w[0])
	checkCurricula(t, l[:1], []api.Curriculum{cs()})
	if !slices.Equal(w[1], []string{"b", "PH;MA"}) {
		t.Errorf("Write: %q", w)
	}
}

// sample returns as many curricula as there can be, with 1 to MaxFeatures courses in several orders.
func sample() []api.Curriculum {
	l := named(append(numbered("k", 13), "a", "9_-", strings.Repeat("Z", 16))...)
	courses := append(numbered("c", 6), "x", "c9", "c09", "C10", "9", "a-", strings.Repeat("z", 16))
	for i := range l {
		l[i].Courses = nil
		for k := range 1 + i%8 {
			l[i].Courses = append(l[i].Courses, courses[(i+k*(1+i%3))%len(courses)])
		}
	}
	return l
}

// The consequence: Read of Write gives the curricula, through a file as well.
func TestWriteAndRead(t *testing.T) {
	l := sample()
	w, e := Write(l)
	if e != api.OK || len(w) != 16 {
		t.Fatalf("Write: %q, %d", w, e)
	}
	var direct []api.Record
	for i, fields := range w {
		direct = append(direct, record(i+1, fields...))
	}
	checkRead(t, direct, l, nil)
	for _, delimiter := range []byte(",;|\t") {
		for _, quote := range []byte("\"'") {
			d := api.Dialect{Delimiter: delimiter, Quote: quote}
			text, e := records.Format(w, d)
			file, problems := records.Parse(text, d)
			if e != api.OK || len(problems) > 0 {
				t.Errorf("file in %v: %d, %v", d, e, problems)
			}
			checkRead(t, file, l, nil)
		}
	}
}
