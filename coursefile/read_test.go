package coursefile

import (
	"regexp"
	"slices"
	"strconv"
	"strings"
	"testing"

	"timetable/api"
	"timetable/codes"
	"timetable/weekset"
)

// record returns a record whose fields are in the columns 11, 22, 33 and so on.
func record(line int, fields ...string) api.Record {
	r := api.Record{Line: line}
	for i, s := range fields {
		r.Fields = append(r.Fields, api.Field{Text: s, Column: 11 * (i + 1), Quoted: i%2 == 1})
	}
	return r
}

// smallRecord returns the record of a small class.
func smallRecord(line int, code string) api.Record {
	return record(line, code, "C", "p", "1", "all", "0", "", "", "")
}

// changed returns the record of a small class with another text in a field.
func changed(i int, s string) api.Record {
	r := smallRecord(7, "c")
	r.Fields[i].Text = s
	return r
}

func checkRead(t *testing.T, l []api.Record, want []api.Class, problems []api.Problem) {
	t.Helper()
	classes, p := Read(l, grid(), tenWeeks)
	checkClasses(t, classes, want)
	if !slices.Equal(p, problems) {
		t.Errorf("problems %v, want %v", p, problems)
	}
	if e := Valid(classes, grid(), tenWeeks); e != api.OK {
		t.Errorf("the classes %v have the error %d", classes, e)
	}
}

// checkRight checks that a record with a text in a field is that of a small class with a change.
func checkRight(t *testing.T, i int, s string, change func(c *api.Class)) {
	t.Helper()
	c := small("c")
	change(&c)
	checkRead(t, []api.Record{changed(i, s)}, []api.Class{c}, nil)
}

// checkWrong checks that a record with a text in a field is left out, with a problem at this field.
func checkWrong(t *testing.T, i int, s string, e api.Errno) {
	t.Helper()
	problem := api.Problem{Line: 7, Column: 11 * (i + 1), Code: e}
	checkRead(t, []api.Record{changed(i, s)}, nil, []api.Problem{problem})
	other := smallRecord(9, "x")
	checkRead(t, []api.Record{other, changed(i, s), other}, []api.Class{small("x")}, []api.Problem{problem, {Line: 9, Code: api.ErrDuplicate}})
}

// P10.2: classes with and without features, staff and starts.
func TestRead(t *testing.T) {
	checkRead(t, nil, nil, nil)
	checkRead(t, []api.Record{}, nil, nil)
	checkRead(t, []api.Record{
		record(1, "L1", "MA", "lec", "2", "odd/even", "25", "lab;beamer", "bob;ada", "Tu 3;Mo 3"),
		smallRecord(4, "L2"),
		record(5, "9-_", "9-_", "9-_", "10", "1-3,7/all/10", "0099", "x", "b;a", "Fr 1;We 1;Mo 1"),
	}, []api.Class{
		class(),
		small("L2"),
		{Code: "9-_", Course: "9-_", Part: "9-_", Length: 10, Patterns: []int{71, 1023, 512}, Seats: 99, Features: []string{"x"}, Staff: []string{"a", "b"}, Starts: []api.Start{{Day: 0}, {Day: 2}, {Day: 4}}},
	}, nil)
}

// P10.2: without a grid or weeks nothing is read.
func TestReadFrame(t *testing.T) {
	check := func(l []api.Record, g api.Grid, weeks int) {
		t.Helper()
		if classes, p := Read(l, g, weeks); len(classes) > 0 || !slices.Equal(p, []api.Problem{{Code: api.ErrInvalid}}) {
			t.Errorf("Read in %v, %d weeks: %v, %v", g, weeks, classes, p)
		}
	}
	for _, l := range [][]api.Record{nil, {smallRecord(1, "c")}, {record(1, "?"), record(2)}} {
		for _, g := range wrongGrids() {
			check(l, g, tenWeeks)
		}
		for _, weeks := range wrongWeeks() {
			check(l, grid(), weeks)
		}
	}
	for weeks := 1; weeks <= 20; weeks++ {
		right, wrong := smallRecord(1, "c"), smallRecord(2, "d")
		right.Fields[fieldPatterns].Text = strconv.Itoa(weeks)
		wrong.Fields[fieldPatterns].Text = strconv.Itoa(weeks + 1)
		c := small("c")
		c.Patterns = []int{1 << (weeks - 1)}
		classes, p := Read([]api.Record{right, wrong}, grid(), weeks)
		checkClasses(t, classes, []api.Class{c})
		if !slices.Equal(p, []api.Problem{{Line: 2, Column: 55, Code: api.ErrRange}}) {
			t.Errorf("problems in %d weeks: %v", weeks, p)
		}
	}
}

// P10.2: other numbers of fields, whatever they say, and wherever they stand.
func TestReadFields(t *testing.T) {
	fields := []string{"c", "C", "p", "1", "all", "0", "", "", "", "", "x", "", ""}
	for n := range len(fields) + 1 {
		if n != 9 {
			checkRead(t, []api.Record{record(3, fields[:n]...)}, nil, []api.Problem{{Line: 3, Code: api.ErrFields}})
			checkRead(t, []api.Record{record(3, slices.Repeat([]string{"?"}, n)...)}, nil, []api.Problem{{Line: 3, Code: api.ErrFields}})
			checkRead(t, []api.Record{smallRecord(2, "c"), record(3, fields[:n]...)}, []api.Class{small("c")}, []api.Problem{{Line: 3, Code: api.ErrFields}})
		}
	}
	r := smallRecord(-5, "c")
	r.Fields[fieldSeats] = api.Field{Text: "?", Column: -9}
	checkRead(t, []api.Record{{Line: -4}, r, {}}, nil, []api.Problem{{Line: -4, Code: api.ErrFields}, {Line: -5, Column: -9, Code: api.ErrForm}, {Code: api.ErrFields}})
}

// P10.2: what is a code, and what is none.
func TestReadCodes(t *testing.T) {
	for _, s := range rightCodes() {
		checkRight(t, fieldCode, s, func(c *api.Class) { c.Code = s })
		checkRight(t, fieldCourse, s, func(c *api.Class) { c.Course = s })
		checkRight(t, fieldPart, s, func(c *api.Class) { c.Part = s })
	}
	for _, s := range wrongCodes() {
		checkWrong(t, fieldCode, s, api.ErrCode)
		checkWrong(t, fieldCourse, s, api.ErrCode)
		checkWrong(t, fieldPart, s, api.ErrCode)
	}
}

// misshapen are texts that are no numbers.
func misshapen() []string {
	return []string{"", " ", "-", "+1", "-1", " 1", "1 ", "1.", "1.0", "1,0", "1_0", "1-2", "1e1", "0x1", "x", "3x", "x3", "1\x00", "1\n", "1/", "1:", "\u0663", "3\xff", strings.Repeat("1", 1000), "18446744073709551617"}
}

// P10.2: numbers of slots.
func TestReadLength(t *testing.T) {
	for n := range 2000 {
		s := strconv.Itoa(n)
		switch {
		case n < 1 || n > 99:
			checkWrong(t, fieldLength, s, api.ErrForm)
		case n > 10:
			checkWrong(t, fieldLength, s, api.ErrRange)
		default:
			checkRight(t, fieldLength, s, func(c *api.Class) { c.Length = n })
		}
		checkWrong(t, fieldLength, "0"+s, api.ErrForm)
	}
	for _, s := range misshapen() {
		checkWrong(t, fieldLength, s, api.ErrForm)
	}
	for slots := 1; slots <= 24; slots++ {
		for n := 1; n <= 30; n++ {
			c, want := small("c"), []api.Problem{{Line: 7, Column: 44, Code: api.ErrRange}}
			c.Length = n
			classes, p := Read([]api.Record{changed(fieldLength, strconv.Itoa(n))}, api.Grid{Days: 1, Slots: slots, Minutes: 5}, tenWeeks)
			if n <= slots && (len(classes) != 1 || !equalClasses(classes[0], c) || len(p) > 0) || n > slots && (len(classes) > 0 || !slices.Equal(p, want)) {
				t.Errorf("%d of %d slots: %v, %v", n, slots, classes, p)
			}
		}
	}
}

// P10.2: sets of weeks, in their order.
func TestReadPatterns(t *testing.T) {
	for s, l := range map[string][]int{
		"all": {1023}, "odd": {341}, "even": {682}, "1": {1}, "odd/even": {341, 682}, "even/odd": {682, 341}, "10/1-3,7/first": {512, 71, 31}, "1,2/1/2,1,3": {3, 1, 7},
		"1/2/3/4/5/6/7/8": {1, 2, 4, 8, 16, 32, 64, 128}, "8/7/6/5/4/3/2/1": {128, 64, 32, 16, 8, 4, 2, 1},
	} {
		checkRight(t, fieldPatterns, s, func(c *api.Class) { c.Patterns = l })
	}
	for _, s := range []string{"", " ", "x", "All", " all", "all ", "all;odd", "all|odd", "0", "01", "1-", "-1", "1,", ",1", "1,,2", "11", "99", "100", "2-1", "1-11", "11-1", "1\x00", "1-2-3", "odd-even"} {
		_, e := weekset.Parse(s, tenWeeks)
		if e == api.OK {
			t.Errorf("weekset.Parse(%q) has no error", s)
		}
		for _, list := range []string{s, s + "/all", "all/" + s, "all/" + s + "/odd", "all/all/" + s, "all/" + s + "/?", s + "/11/x"} {
			checkWrong(t, fieldPatterns, list, e)
		}
	}
	for _, s := range []string{"/", "all/", "/all", "all//odd", "all/ odd", "all /odd", strings.Repeat("/", 10000)} {
		checkWrong(t, fieldPatterns, s, api.ErrForm)
	}
	checkWrong(t, fieldPatterns, "11/x", api.ErrRange)
	checkWrong(t, fieldPatterns, "x/11", api.ErrForm)
	one := changed(fieldPatterns, "all/even")
	if classes, p := Read([]api.Record{one}, grid(), 1); len(classes) > 0 || !slices.Equal(p, []api.Problem{{Line: 7, Column: 55, Code: api.ErrEmpty}}) {
		t.Errorf("even weeks of one: %v, %v", classes, p)
	}
}

// P10.2: too many sets of weeks, and equal ones; an error of a set comes first, wherever it stands.
func TestReadManyPatterns(t *testing.T) {
	l := []string{"1", "2", "3", "4", "5", "6", "7", "8", "9", "10", "1,2"}
	for n := 1; n <= len(l); n++ {
		s := strings.Join(l[:n], "/")
		if n > 8 {
			checkWrong(t, fieldPatterns, s, api.ErrSize)
			checkWrong(t, fieldPatterns, strings.Repeat("1/", n-1)+"1", api.ErrSize)
		}
		for i := range n {
			wrong := slices.Clone(l[:n])
			wrong[i] = "11"
			checkWrong(t, fieldPatterns, strings.Join(wrong, "/"), api.ErrRange)
		}
	}
	for n := 2; n <= 8; n++ {
		for i := range n {
			for k := range i {
				equal := slices.Clone(l[:n])
				equal[i] = equal[k]
				checkWrong(t, fieldPatterns, strings.Join(equal, "/"), api.ErrDuplicate)
			}
		}
	}
	for _, s := range []string{"all/1-10", "1-5/first", "odd/1,3,5,7,9", "2/odd/2-2", "1,2/2,1"} {
		checkWrong(t, fieldPatterns, s, api.ErrDuplicate)
	}
}

// P10.2: numbers of seats, which may have zeros in front.
func TestReadSeats(t *testing.T) {
	for n := range 10050 {
		s := strconv.Itoa(n)
		for range 5 {
			if len(s) <= 4 {
				checkRight(t, fieldSeats, s, func(c *api.Class) { c.Seats = n })
			} else {
				checkWrong(t, fieldSeats, s, api.ErrForm)
			}
			s = "0" + s
		}
	}
	for _, s := range misshapen() {
		checkWrong(t, fieldSeats, s, api.ErrForm)
	}
}

// P10.2: features and staff are lists of codes, and are sorted bytewise.
func TestReadLists(t *testing.T) {
	checkBoth := func(s string, e api.Errno) {
		t.Helper()
		checkWrong(t, fieldFeatures, s, e)
		checkWrong(t, fieldStaff, s, e)
	}
	for s, want := range map[string]string{
		"lab": "lab", "beamer;lab": "beamer;lab", "lab;beamer": "beamer;lab", "c;b;a;C;B;A;2;1": "1;2;A;B;C;a;b;c", "a8..a11": "a10;a11;a8;a9", "a9;a10": "a10;a9", "f1..f8": "f1;f2;f3;f4;f5;f6;f7;f8",
	} {
		l := strings.Split(want, ";")
		checkRight(t, fieldFeatures, s, func(c *api.Class) { c.Features = l })
		checkRight(t, fieldStaff, s, func(c *api.Class) { c.Staff = l })
	}
	for _, s := range []string{";", "a;", ";a", "a;;b", "a..b..c", "?", "a;?", "a b", "..", "a..", "..a", "a1..a", "a2..a1", "a1..b2", "a;a", "a1..a3;a2", "f1..f64;f1", "f1..f65", "f1..f65;?", "f1..f64;?", "f1..f9;f1", "f1..f9;?", "f1..f9;"} {
		_, e := codes.List(s)
		if e == api.OK {
			t.Errorf("codes.List(%q) has no error", s)
		}
		checkBoth(s, e)
	}
	for n := 9; n <= 64; n++ {
		checkBoth(strings.Join(texts("f", n), ";"), api.ErrSize)
		checkBoth("f1..f"+strconv.Itoa(n), api.ErrSize)
	}
	checkRead(t, []api.Record{record(1, "c", "C", "p", "1", "all", "0", "b;a", "d;a;c", "")}, []api.Class{
		{Code: "c", Course: "C", Part: "p", Length: 1, Patterns: []int{1023}, Features: []string{"a", "b"}, Staff: []string{"a", "c", "d"}},
	}, nil)
}

// startForm is what the text of a start looks like.
var startForm = regexp.MustCompile(`^(Mo|Tu|We|Th|Fr|Sa|Su) ([1-9][0-9]?)$`)

// readByForm is another reading of a start in a week of five days.
func readByForm(s string, slots, length int) (api.Start, api.Errno) {
	parts := startForm.FindStringSubmatch(s)
	if parts == nil {
		return api.Start{}, api.ErrForm
	}
	day := slices.Index([]string{"Mo", "Tu", "We", "Th", "Fr"}, parts[1])
	slot, _ := strconv.Atoi(parts[2])
	if day < 0 || slot+length-1 > slots {
		return api.Start{}, api.ErrTime
	}
	return api.Start{Day: day, Slot: slot - 1}, api.OK
}

// P10.2: single starts of all forms, with all lengths.
func TestReadStart(t *testing.T) {
	var all []string
	for _, day := range []string{"Mo", "Tu", "We", "Th", "Fr", "Sa", "Su", "", "mo", "MO", "M", "Mon", "xx", " Mo", "Mo ", "1", "Mo\t"} {
		for _, space := range []string{" ", "", "  ", "\t", "-", "\u00a0", " +"} {
			for _, slot := range []string{"1", "2", "5", "9", "10", "11", "12", "24", "25", "99", "100", "0", "00", "01", "010", "", "x", "1x", "-1", "1-1", "1-2", "1-", "1 ", "1 all", "1 odd", "1 1", "1\n", "\u0661", "1_0", "1.0"} {
				all = append(all, day+space+slot)
			}
		}
	}
	for _, s := range all {
		for length := 1; length <= 10; length++ {
			if s == "" {
				continue // there are no starts then
			}
			start, e := readByForm(s, 10, length)
			c := small("c")
			c.Length, c.Starts = length, []api.Start{start}
			r := changed(fieldStarts, s)
			r.Fields[fieldLength].Text = strconv.Itoa(length)
			if e == api.OK {
				checkRead(t, []api.Record{r}, []api.Class{c}, nil)
			} else {
				checkRead(t, []api.Record{r}, nil, []api.Problem{{Line: 7, Column: 99, Code: e}})
			}
		}
	}
}

// P10.2: lists of starts; the first one that is wrong decides.
func TestReadStarts(t *testing.T) {
	for s, l := range map[string][]api.Start{
		"":                    nil,
		"Mo 1":                {{}},
		"Fr 10":               {{Day: 4, Slot: 9}},
		"Mo 1;Mo 2":           {{}, {Slot: 1}},
		"Mo 2;Mo 1":           {{}, {Slot: 1}},
		"Mo 10;Mo 9":          {{Slot: 8}, {Slot: 9}},
		"Tu 1;Mo 2;Tu 2;Mo 1": {{}, {Slot: 1}, {Day: 1}, {Day: 1, Slot: 1}},
		"Fr 1;Th 2;We 3;Tu 4;Mo 5": {
			{Day: 0, Slot: 4}, {Day: 1, Slot: 3}, {Day: 2, Slot: 2}, {Day: 3, Slot: 1}, {Day: 4, Slot: 0},
		},
	} {
		checkRight(t, fieldStarts, s, func(c *api.Class) { c.Starts = l })
	}
	for _, s := range []string{"x", " ", "Mo", "Mo 0", "Mo 1-2", "Mo 1 odd", "mo 1", " Mo 1", "Mo 1 ", "Sa 1", "Su 9", "Mo 11", "Sa 11", "Mo 99"} {
		_, e := readByForm(s, 10, 1)
		for _, list := range []string{s, s + ";Mo 1", "Mo 1;" + s, "Tu 1;" + s + ";Mo 1", "Mo 1;" + s + ";?", s + ";Sa 1;x", "Mo 1;Mo 1;" + s} {
			checkWrong(t, fieldStarts, list, e)
		}
	}
	for _, s := range []string{";", "Mo 1;", ";Mo 1", "Mo 1;;Tu 1", "Mo 1; Tu 1", "Mo 1 ;Tu 1", "Mo 1,Tu 1", "Mo 1/Tu 1", strings.Repeat(";", 10000)} {
		checkWrong(t, fieldStarts, s, api.ErrForm)
	}
	checkWrong(t, fieldStarts, "Sa 1;x", api.ErrTime)
	checkWrong(t, fieldStarts, "x;Sa 1", api.ErrForm)
	checkWrong(t, fieldStarts, "Mo 1;Mo 1", api.ErrDuplicate)
	checkWrong(t, fieldStarts, "Tu 1;Mo 1;Tu 1", api.ErrDuplicate)
	checkWrong(t, fieldStarts, "Tu 1;Tu 2;Mo 3;Tu 2", api.ErrDuplicate)
}

// P10.2: too many starts; an error of a start comes before it, wherever it stands, and equal ones behind it.
func TestReadManyStarts(t *testing.T) {
	var l []string
	for _, day := range []string{"Fr", "Mo", "We"} {
		for slot := 10; slot > 0; slot-- {
			l = append(l, day+" "+strconv.Itoa(slot))
		}
	}
	for n := 1; n <= len(l); n++ {
		s := strings.Join(l[:n], ";")
		if n <= 24 {
			var want []api.Start
			for _, text := range l[:n] {
				start, _ := readByForm(text, 10, 1)
				want = append(want, start)
			}
			slices.SortFunc(want, func(a, b api.Start) int { return 100*(a.Day-b.Day) + a.Slot - b.Slot })
			checkRight(t, fieldStarts, s, func(c *api.Class) { c.Starts = want })
			checkWrong(t, fieldStarts, strings.Repeat("Mo 1;", n)+"Mo 1", map[bool]api.Errno{true: api.ErrDuplicate, false: api.ErrSize}[n < 24])
		} else {
			checkWrong(t, fieldStarts, s, api.ErrSize)
		}
		for i := range n {
			wrong := slices.Clone(l[:n])
			wrong[i] = "Mo 11"
			checkWrong(t, fieldStarts, strings.Join(wrong, ";"), api.ErrTime)
		}
	}
}

// P10.2: all sets of wrong fields; the first one is reported, at its place.
func TestReadOrder(t *testing.T) {
	right := []string{"L1", "MA", "lec", "2", "odd/even", "25", "lab;beamer", "bob;ada", "Tu 3;Mo 3"}
	wrong := []string{"?", "", "-", "11", "all/all", "x", "lab;", "f1..f9", "Sa 1"}
	errors := []api.Errno{api.ErrCode, api.ErrCode, api.ErrCode, api.ErrRange, api.ErrDuplicate, api.ErrForm, api.ErrForm, api.ErrSize, api.ErrTime}
	for set := 1; set < 1<<len(right); set++ {
		fields := slices.Clone(right)
		first := -1
		for i := range fields {
			if set>>i&1 == 1 {
				fields[i] = wrong[i]
				if first < 0 {
					first = i
				}
			}
		}
		problem := api.Problem{Line: 2, Column: 11 * (first + 1), Code: errors[first]}
		checkRead(t, []api.Record{record(1, right...), record(2, fields...)}, []api.Class{class()}, []api.Problem{problem})
		checkRead(t, []api.Record{record(2, fields...), record(3, right...)}, []api.Class{class()}, []api.Problem{problem})
		checkRead(t, []api.Record{record(2, append(fields, "")...)}, nil, []api.Problem{{Line: 2, Code: api.ErrFields}})
	}
}

// P10.2: a code counts as read only where the class was read; the first one stays.
func TestReadDuplicate(t *testing.T) {
	wrong := smallRecord(1, "L1")
	wrong.Fields[fieldStarts].Text = "x"
	full := record(3, "L1", "MA", "lec", "2", "odd/even", "25", "lab;beamer", "bob;ada", "Tu 3;Mo 3")
	late := smallRecord(7, "L2")
	late.Fields[fieldSeats].Text = ""
	checkRead(t, []api.Record{
		wrong, smallRecord(2, "L1"), full, smallRecord(4, "L2"), smallRecord(5, "L1"), smallRecord(6, "L2"), late, record(8, "L2"), smallRecord(9, "l1"), smallRecord(10, "L01"), smallRecord(11, "C"),
	}, []api.Class{small("L1"), small("L2"), small("l1"), small("L01"), small("C")}, []api.Problem{
		{Line: 1, Column: 99, Code: api.ErrForm},
		{Line: 3, Code: api.ErrDuplicate},
		{Line: 5, Code: api.ErrDuplicate},
		{Line: 6, Code: api.ErrDuplicate},
		{Line: 7, Column: 66, Code: api.ErrForm},
		{Line: 8, Code: api.ErrFields},
	})
}

// P10.2: no more than MaxClasses classes; those that are left out do not count.
func TestReadSize(t *testing.T) {
	var l []api.Record
	var want []api.Class
	var problems []api.Problem
	for i, code := range texts("L", 28) {
		wrong := smallRecord(10*i+2, code)
		wrong.Fields[fieldLength].Text = "11"
		l = append(l, smallRecord(10*i, code), smallRecord(10*i+1, code), wrong)
		if i < 24 {
			want = append(want, small(code))
			problems = append(problems, api.Problem{Line: 10*i + 1, Code: api.ErrDuplicate})
		} else {
			problems = append(problems, api.Problem{Line: 10 * i, Code: api.ErrSize}, api.Problem{Line: 10*i + 1, Code: api.ErrSize})
		}
		problems = append(problems, api.Problem{Line: 10*i + 2, Column: 44, Code: api.ErrRange})
	}
	l = append(l, smallRecord(500, "L10"), smallRecord(501, "?"), record(502))
	problems = append(problems, api.Problem{Line: 500, Code: api.ErrDuplicate}, api.Problem{Line: 501, Column: 11, Code: api.ErrCode}, api.Problem{Line: 502, Code: api.ErrFields})
	checkRead(t, l, want, problems)
}

// P10.2, R2: the records stay as they are, and classes share no memory with each other.
func TestReadMemory(t *testing.T) {
	fields := []string{"c", "C", "p", "1", "odd/even", "0", "z;a", "z;a", "Tu 1;Mo 1"}
	other := slices.Clone(fields)
	other[fieldCode] = "d"
	l := []api.Record{record(1, fields...), record(2, other...)}
	classes, _ := Read(l, grid(), tenWeeks)
	if !slices.EqualFunc(l, []api.Record{record(1, fields...), record(2, other...)}, func(a, b api.Record) bool { return a.Line == b.Line && slices.Equal(a.Fields, b.Fields) }) || len(classes) != 2 {
		t.Fatalf("after Read: %v, %v", l, classes)
	}
	c := &classes[0]
	c.Features[0], c.Staff[1], c.Patterns[0], c.Starts[0] = "q", "q", 0, api.Start{Day: 9}
	_, _, _, _ = append(c.Features, "q"), append(c.Staff, "q"), append(c.Patterns, 0), append(c.Starts, api.Start{})
	again, _ := Read(l, grid(), tenWeeks)
	checkClasses(t, classes[1:], again[1:])
	if c.Features[1] != "z" || c.Staff[0] != "a" || again[0].Features[0] != "a" || again[0].Patterns[0] != 341 {
		t.Errorf("second reading: %v, after %v", again, classes)
	}
}
