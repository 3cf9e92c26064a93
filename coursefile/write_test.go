package coursefile

import (
	"slices"
	"strings"
	"testing"

	"timetable/api"
	"timetable/records"
	"timetable/weekset"
)

func checkWrite(t *testing.T, l []api.Class, want [][]string) {
	t.Helper()
	w, e := Write(l, grid(), tenWeeks)
	if e != api.OK || !slices.EqualFunc(w, want, slices.Equal) {
		t.Errorf("Write(%v) = %v, %d; want %v", l, w, e, want)
	}
}

// P10.3: the fields of classes.
func TestWrite(t *testing.T) {
	checkWrite(t, nil, nil)
	checkWrite(t, []api.Class{}, nil)
	checkWrite(t, []api.Class{
		class(),
		small("L0"),
		{
			Code: "A", Course: "B", Part: "C", Length: 10, Patterns: []int{71, 1023, 31, 992, 1, 512, 682, 341}, Seats: 9999,
			Features: []string{"a10", "a11", "a12", "b"}, Staff: []string{"a10", "a11", "a8", "a9"},
			Starts: []api.Start{{Day: 0}, {Day: 2}, {Day: 4}},
		},
		{Code: "B", Course: "B", Part: "B", Length: 1, Patterns: []int{2}, Seats: 7, Features: []string{}, Staff: texts("s", 8), Starts: []api.Start{{Slot: 9}, {Day: 1, Slot: 8}, {Day: 3}}},
	}, [][]string{
		{"L1", "MA", "lec", "2", "odd/even", "25", "beamer;lab", "ada;bob", "Mo 3;Tu 3"},
		{"L0", "C", "p", "1", "all", "0", "", "", ""},
		{"A", "B", "C", "10", "1-3,7/all/first/second/1/10/even/odd", "9999", "a10..a12;b", "a10;a11;a8;a9", "Mo 1;We 1;Fr 1"},
		{"B", "B", "B", "1", "2", "7", "", "s10..s17", "Mo 10;Tu 9;Th 1"},
	})
}

// P10.3: every place in the largest week, with every length.
func TestWriteStarts(t *testing.T) {
	g := api.Grid{Days: 7, Slots: 24, Minutes: 60}
	names := []string{"Mo", "Tu", "We", "Th", "Fr", "Sa", "Su"}
	for length := 1; length <= 24; length++ {
		for day := range 7 {
			c, want := small("c"), []string{}
			c.Length = length
			for slot := range 25 - length {
				c.Starts = append(c.Starts, api.Start{Day: day, Slot: slot})
				want = append(want, names[day]+" "+[]string{"1", "2", "3", "4", "5", "6", "7", "8", "9", "10", "11", "12", "13", "14", "15", "16", "17", "18", "19", "20", "21", "22", "23", "24"}[slot])
			}
			w, e := Write([]api.Class{c}, g, tenWeeks)
			if e != api.OK || w[0][fieldStarts] != strings.Join(want, ";") {
				t.Errorf("Write(%v) = %v, %d", c, w, e)
			}
			l, p := Read([]api.Record{record(1, w[0]...)}, g, tenWeeks)
			checkClasses(t, l, []api.Class{c})
			if len(p) > 0 {
				t.Errorf("problems %v", p)
			}
		}
	}
}

// P10.3: the number of weeks tells what the sets are called.
func TestWriteWeeks(t *testing.T) {
	c := small("c")
	c.Patterns = []int{1, 3}
	for weeks := 2; weeks <= 20; weeks++ {
		one, _ := weekset.Format(1, weeks)
		two, _ := weekset.Format(3, weeks)
		if w, e := Write([]api.Class{c}, grid(), weeks); e != api.OK || w[0][fieldPatterns] != one+"/"+two {
			t.Errorf("Write in %d weeks: %v, %d", weeks, w, e)
		}
	}
	if w, e := Write([]api.Class{c}, grid(), 2); e != api.OK || w[0][fieldPatterns] != "odd/all" {
		t.Errorf("Write in 2 weeks: %v, %d", w, e)
	}
	if w, e := Write([]api.Class{c}, grid(), 1); e != api.ErrInvalid || len(w) > 0 {
		t.Errorf("Write in 1 week: %v, %d", w, e)
	}
}

// P10.3, R2: the classes stay as they are.
func TestWriteMemory(t *testing.T) {
	l := []api.Class{class(), small("x")}
	w, _ := Write(l, grid(), tenWeeks)
	clear(w[0])
	checkClasses(t, l, []api.Class{class(), small("x")})
	if w[1][fieldCode] != "x" {
		t.Errorf("Write: %v", w)
	}
}

// sample returns classes of many kinds.
func sample() []api.Class {
	lists := [][]string{nil, {"a"}, {"B", "a"}, {"a10", "a9"}, {"a01", "a02", "a03"}, {"1", "2", "3", "4"}, texts("f", 8)}
	seats := []int{0, 1, 9, 10, 99, 999, 1000, 9999}
	var l []api.Class
	for i, code := range append(texts("L", 21), "a", "9_-", strings.Repeat("Z", 16)) {
		c := api.Class{Code: code, Course: "C" + code[:1], Part: code[:1] + "p", Length: 1 + i%10, Seats: seats[i%len(seats)], Features: lists[i%len(lists)], Staff: lists[i*3%len(lists)]}
		for k := range 1 + i%8 {
			c.Patterns = append(c.Patterns, 1+(97*i+331*k)%1023)
		}
		for k := range i {
			s := api.Start{Day: k % 5, Slot: k / 5}
			if s.Slot <= 10-c.Length {
				c.Starts = append(c.Starts, s)
			}
		}
		slices.SortFunc(c.Starts, func(a, b api.Start) int { return 100*(a.Day-b.Day) + a.Slot - b.Slot })
		l = append(l, c)
	}
	return l
}

// The consequence: Read of Write gives the classes, through a file as well.
func TestWriteAndRead(t *testing.T) {
	l := sample()
	w, e := Write(l, grid(), tenWeeks)
	if e != api.OK {
		t.Fatalf("Write: %d", e)
	}
	var direct []api.Record
	for i, fields := range w {
		direct = append(direct, record(i+1, fields...))
	}
	checkRead(t, direct, l, nil)
	for _, delimiter := range []byte(",;|\t") {
		for _, quote := range []byte("\"'") {
			d := api.Dialect{Delimiter: delimiter, Quote: quote}
			text, e := records.Format(w, d)
			file, problems := records.Parse(text, d)
			if e != api.OK || len(problems) > 0 {
				t.Errorf("file in %v: %d, %v", d, e, problems)
			}
			checkRead(t, file, l, nil)
		}
	}
}

// What Read returns from a file with problems is written in the usual form.
func TestReadAndWrite(t *testing.T) {
	text := "L1,MA,lec,2,odd/even,0025,lab;beamer,bob;ada,Tu 3;Mo 3\n# L2\n\nL1,MA,lec,2,all,25,,,\nL3,MA,\"lec\",10,\"1-5/1,2,3\",000,a9..a11,,\"We 1;Mo 1\"\nL4,MA,ex,1,all/1-10,5,,,\nL5,MA,ex,1,,5,,,\n\"L6\",MA,ex,1,all,5,,?,\nL7,MA,ex,1,all,5,,,Mo 11\nL8,MA,ex\nL9,'MA,ex,1,all,5,,,\nL9,MA,ex,1,all,5,,,\n"
	file, _ := records.Parse(text, api.Dialect{Delimiter: ',', Quote: '"'})
	l, problems := Read(file, grid(), tenWeeks)
	want := []api.Problem{
		{Line: 4, Code: api.ErrDuplicate}, {Line: 6, Column: 12, Code: api.ErrDuplicate}, {Line: 7, Column: 12, Code: api.ErrForm}, {Line: 8, Column: 21, Code: api.ErrCode},
		{Line: 9, Column: 20, Code: api.ErrTime}, {Line: 10, Code: api.ErrFields}, {Line: 11, Column: 4, Code: api.ErrCode},
	}
	if !slices.Equal(problems, want) {
		t.Errorf("problems %v, want %v", problems, want)
	}
	checkWrite(t, l, [][]string{
		{"L1", "MA", "lec", "2", "odd/even", "25", "beamer;lab", "ada;bob", "Mo 3;Tu 3"},
		{"L3", "MA", "lec", "10", "first/1-3", "0", "a10;a11;a9", "", "Mo 1;We 1"},
		{"L9", "MA", "ex", "1", "all", "5", "", "", ""},
	})
}
