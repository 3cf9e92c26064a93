package requests

import (
	"slices"
	"strconv"
	"strings"
	"testing"

	"timetable/api"
	"timetable/records"
)

func checkWrite(t *testing.T, l []api.Request, want [][]string) {
	t.Helper()
	w, e := Write(l)
	if e != api.OK || !slices.EqualFunc(w, want, slices.Equal) {
		t.Errorf("Write(%v) = %q, %d; want %q", l, w, e, want)
	}
}

// P12.2: the fields of requests, in their order.
func TestWrite(t *testing.T) {
	checkWrite(t, nil, nil)
	checkWrite(t, []api.Request{}, nil)
	checkWrite(t, []api.Request{
		ada(),
		{Student: "Z", Course: "MA", Priority: 9},
		{Student: "ada", Course: "MA", Priority: 1, Instead: []string{"c", "b", "a2", "a1", "B", "9"}},
		{Student: "A", Course: "A", Priority: 5, Instead: []string{"x08", "x09", "x10", "x11", "a", "x12", "x13", "x14"}},
	}, [][]string{
		{"ada", "PH", "3", "MB;MA1..MA3"},
		{"Z", "MA", "9", ""},
		{"ada", "MA", "1", "c;b;a2;a1;B;9"},
		{"A", "A", "5", "x08..x11;a;x12..x14"},
	})
}

// P12.2, R2: the requests stay as they are, and the rows share no memory.
func TestWriteMemory(t *testing.T) {
	l := []api.Request{ada(), {Student: "b", Course: "X", Priority: 2, Instead: []string{"PH", "MA"}}}
	w, _ := Write(l)
	_ = append(w[0], "?")
	clear(w[0])
	checkRequests(t, l[:1], []api.Request{ada()})
	if !slices.Equal(w[1], []string{"b", "X", "2", "PH;MA"}) {
		t.Errorf("Write: %q", w)
	}
}

// sample returns as many requests as there can be, of as many students as there can be, with up to MaxFeatures courses instead in several orders.
func sample() []api.Request {
	l := many(400, 64)
	courses := append(numbered("k", 6), "x", "k9", "k09", "K10", "9", "a-", strings.Repeat("z", 16))
	for i := range l {
		for k := range i % 9 {
			l[i].Instead = append(l[i].Instead, courses[(i+k*(1+i%3))%len(courses)])
		}
	}
	return l
}

// The consequence: Read of Write gives the requests, through a file as well.
func TestWriteAndRead(t *testing.T) {
	l := sample()
	w, e := Write(l)
	if e != api.OK || len(w) != 400 {
		t.Fatalf("Write: %q, %d", w, e)
	}
	var direct []api.Record
	for i, fields := range w {
		direct = append(direct, record(i+1, fields...))
	}
	checkRead(t, direct, l, nil)
	for _, delimiter := range []byte(",;|\t") {
		for _, quote := range []byte("\"'") {
			d := api.Dialect{Delimiter: delimiter, Quote: quote}
			text, e := records.Format(w, d)
			file, problems := records.Parse(text, d)
			if e != api.OK || len(problems) > 0 {
				t.Errorf("file in %v: %d, %v", d, e, problems)
			}
			checkRead(t, file, l, nil)
		}
	}
}

// The consequence, for all priorities and for all short lists of courses instead.
func TestWriteAndReadAll(t *testing.T) {
	var l []api.Request
	allLists([]string{"A9", "A10", "A11", "A09", "B"}, 3, func(instead []string) {
		r := api.Request{Student: "s", Course: "c" + strconv.Itoa(len(l)), Priority: 1 + len(l)%9, Instead: instead}
		if Valid([]api.Request{r}) == api.OK {
			l = append(l, r)
		}
	})
	w, e := Write(l)
	if e != api.OK || len(w) != 1+5+5*4+5*4*3 {
		t.Fatalf("Write: %q, %d", w, e)
	}
	var file []api.Record
	for i, fields := range w {
		file = append(file, record(i, fields...))
	}
	checkRead(t, file, l, nil)
}
