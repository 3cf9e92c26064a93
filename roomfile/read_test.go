package roomfile

import (
	"slices"
	"strconv"
	"strings"
	"testing"

	"timetable/api"
	"timetable/codes"
	"timetable/timegrid"
)

// record returns a record whose fields are in the columns 11, 22, 33 and so on.
func record(line int, fields ...string) api.Record {
	r := api.Record{Line: line}
	for i, s := range fields {
		r.Fields = append(r.Fields, api.Field{Text: s, Column: 11 * (i + 1), Quoted: i%2 == 1})
	}
	return r
}

func checkRead(t *testing.T, l []api.Record, want []api.Room, problems []api.Problem) {
	t.Helper()
	rooms, p := Read(l, grid(), tenWeeks)
	checkRooms(t, rooms, want)
	if !slices.Equal(p, problems) {
		t.Errorf("problems %v, want %v", p, problems)
	}
}

// checkField checks the error of a record that is right but for one field; with OK it is right at all.
func checkField(t *testing.T, i int, s string, e api.Errno) {
	t.Helper()
	fields := []string{"R1", "B", "30", "", ""}
	fields[i] = s
	rooms, p := Read([]api.Record{record(7, fields...)}, grid(), tenWeeks)
	if e == api.OK {
		if len(rooms) != 1 || len(p) != 0 {
			t.Errorf("field %d is %.60q: %v, %v", i, s, rooms, p)
		}
		return
	}
	if len(rooms) != 0 || !slices.Equal(p, []api.Problem{{Line: 7, Column: 11 * (i + 1), Code: e}}) {
		t.Errorf("field %d is %.60q: %v, %v; want the error %d", i, s, rooms, p, e)
	}
}

// P7.2: rooms with and without features and times.
func TestRead(t *testing.T) {
	checkRead(t, []api.Record{
		record(1, "R1", "B", "30", "beamer;lab", "Mo 1-2 odd"),
		record(4, "R2", "B", "9999", "", ""),
		record(5, "R10", "C", "1", "x", "Fr 10 1-3,7;Mo 1;Mo 1;Tu 2-9 all"),
	}, []api.Room{
		{Code: "R1", Building: "B", Seats: 30, Features: []string{"beamer", "lab"}, Closed: []api.Time{{Weeks: 341, Day: 0, Start: 0, Length: 2}}},
		{Code: "R2", Building: "B", Seats: 9999},
		{Code: "R10", Building: "C", Seats: 1, Features: []string{"x"}, Closed: []api.Time{
			{Weeks: 71, Day: 4, Start: 9, Length: 1}, {Weeks: 1023, Day: 0, Start: 0, Length: 1}, {Weeks: 1023, Day: 0, Start: 0, Length: 1}, {Weeks: 1023, Day: 1, Start: 1, Length: 8},
		}},
	}, nil)
	checkRead(t, nil, nil, nil)
	checkRead(t, []api.Record{}, nil, nil)
}

// P7.2: without a grid or weeks nothing is read.
func TestReadFrame(t *testing.T) {
	invalid := []api.Problem{{Code: api.ErrInvalid}}
	for _, l := range [][]api.Record{nil, {record(1, "R1", "B", "30", "", "")}, {record(1, "?"), record(2)}} {
		for _, g := range wrongGrids() {
			if rooms, p := Read(l, g, tenWeeks); len(rooms) > 0 || !slices.Equal(p, invalid) {
				t.Errorf("Read in %v: %v, %v", g, rooms, p)
			}
		}
		for _, weeks := range wrongWeeks() {
			if rooms, p := Read(l, grid(), weeks); len(rooms) > 0 || !slices.Equal(p, invalid) {
				t.Errorf("Read in %d weeks: %v, %v", weeks, rooms, p)
			}
		}
	}
	for weeks := 1; weeks <= 20; weeks++ {
		rooms, p := Read([]api.Record{record(1, "R", "B", "1", "", "Mo 1;Tu 2 "+strconv.Itoa(weeks))}, grid(), weeks)
		if len(p) > 0 {
			t.Errorf("problems in %d weeks: %v", weeks, p)
		}
		checkRooms(t, rooms, []api.Room{{Code: "R", Building: "B", Seats: 1, Closed: []api.Time{{Weeks: 1<<weeks - 1, Length: 1}, {Weeks: 1 << (weeks - 1), Day: 1, Start: 1, Length: 1}}}})
	}
}

// P7.2: other numbers of fields, whatever they say, and wherever they stand.
func TestReadFields(t *testing.T) {
	fields := []string{"R1", "B", "30", "lab", "Mo 1", "", "x", "", "", "", "", "", ""}
	for n := range len(fields) {
		if n != 5 {
			checkRead(t, []api.Record{record(3, fields[:n]...)}, nil, []api.Problem{{Line: 3, Code: api.ErrFields}})
			checkRead(t, []api.Record{record(3, slices.Repeat([]string{"?"}, n)...)}, nil, []api.Problem{{Line: 3, Code: api.ErrFields}})
		}
	}
	r := record(-5, "R1", "B", "?", "", "")
	r.Fields[fieldSeats].Column = -9
	checkRead(t, []api.Record{{Line: -4}, r}, nil, []api.Problem{{Line: -4, Code: api.ErrFields}, {Line: -5, Column: -9, Code: api.ErrForm}})
}

// P7.2: what is no code.
func TestReadCodes(t *testing.T) {
	for _, i := range []int{fieldCode, fieldBuilding} {
		for _, s := range wrongCodes() {
			checkField(t, i, s, api.ErrCode)
		}
		for _, s := range []string{"R", "9", "a_", "a-", "a1", strings.Repeat("a", 16)} {
			checkField(t, i, s, api.OK)
		}
		checkField(t, i, "a1..a2", api.ErrCode)
	}
}

// P7.2: numbers of seats.
func TestReadSeats(t *testing.T) {
	for n := range 11000 {
		rooms, _ := Read([]api.Record{record(1, "R", "B", strconv.Itoa(n), "", "")}, grid(), tenWeeks)
		if ok := 1 <= n && n <= 9999; ok != (len(rooms) == 1) || ok && rooms[0].Seats != n {
			t.Fatalf("%d seats: %v", n, rooms)
		}
		if rooms, _ := Read([]api.Record{record(1, "R", "B", "0"+strconv.Itoa(n), "", "")}, grid(), tenWeeks); len(rooms) > 0 {
			t.Fatalf("0%d seats: %v", n, rooms)
		}
	}
	for _, s := range []string{"", " ", "-1", "+1", " 1", "1 ", "1.0", "1,0", "1_0", "1-2", "1e1", "0x1", "x", "30x", "x30", "1\x00", "\u0663", "30\xff", "0", "030", "99999", "10000", strings.Repeat("1", 1000), "18446744073709551617"} {
		checkField(t, fieldSeats, s, api.ErrForm)
	}
}

// P7.2: features are a list of codes, and are sorted bytewise.
func TestReadFeatures(t *testing.T) {
	for _, x := range []struct {
		s, want string
	}{
		{"lab", "lab"},
		{"beamer;lab", "beamer;lab"},
		{"lab;beamer", "beamer;lab"},
		{"c;b;a;C;B;A;2;1", "1;2;A;B;C;a;b;c"},
		{"a8..a11", "a10;a11;a8;a9"},
		{"a9;a10", "a10;a9"},
		{"z;a08..a10;b", "a08;a09;a10;b;z"},
		{"f1..f8", "f1;f2;f3;f4;f5;f6;f7;f8"},
	} {
		checkRead(t, []api.Record{record(1, "R", "B", "1", x.s, "")}, []api.Room{{Code: "R", Building: "B", Seats: 1, Features: strings.Split(x.want, ";")}}, nil)
	}
	for _, s := range []string{";", "a;", ";a", "a;;b", "a..b..c", "?", "a;?", "a b", "..", "a..", "..a", "a1..a", "a2..a1", "a1..b2", "a;a", "a1..a3;a2", "f1..f64;f1", "f1..f65", "f1..f65;?", "f1..f64;?", "f1..f64;"} {
		_, e := codes.List(s)
		if e == api.OK {
			t.Errorf("codes.List(%q) has no error", s)
		}
		checkField(t, fieldFeatures, s, e)
	}
	checkField(t, fieldFeatures, "a;", api.ErrForm)
	checkField(t, fieldFeatures, "a;?", api.ErrCode)
	checkField(t, fieldFeatures, "a2..a1", api.ErrRange)
	checkField(t, fieldFeatures, "a;a", api.ErrDuplicate)
	checkField(t, fieldFeatures, "f1..f65", api.ErrSize)
	for n := 1; n <= 64; n++ {
		want := api.OK
		if n > 8 {
			want = api.ErrSize
		}
		checkField(t, fieldFeatures, strings.Join(texts("f", n), ";"), want)
		checkField(t, fieldFeatures, "f1..f"+strconv.Itoa(n), want)
	}
	checkField(t, fieldFeatures, "f1..f9;f1", api.ErrDuplicate)
	checkField(t, fieldFeatures, "f1..f9;?", api.ErrCode)
}

// P7.2: times, and what are none.
func TestReadTimes(t *testing.T) {
	for n := 1; n <= 30; n++ {
		want := api.OK
		if n > 24 {
			want = api.ErrSize
		}
		l := slices.Repeat([]string{"Mo 1 odd"}, n)
		checkField(t, fieldClosed, strings.Join(l, ";"), want)
		// An error of a time comes before that of their number, wherever it stands.
		for i := range l {
			wrong := slices.Clone(l)
			wrong[i] = "Mo 11"
			checkField(t, fieldClosed, strings.Join(wrong, ";"), api.ErrTime)
			checkField(t, fieldClosed, strings.Join(wrong, ";")+";x", api.ErrTime)
			checkField(t, fieldClosed, "x;"+strings.Join(wrong, ";"), api.ErrForm)
		}
	}
	for _, s := range []string{"x", " ", " Mo 1", "Mo 1 ", "Mo", "mo 1", "Mo 0", "Mo 1-", "Sa 1", "Mo 2-1", "Mo 11", "Mo 1 x", "Mo 1 11", "Mo 1 0", "Mo 1,Tu 1", "Mo 1|Tu 1", "Mo 1 odd,", "Mo 1 2-1"} {
		_, e := timegrid.Parse(grid(), tenWeeks, s)
		if e == api.OK {
			t.Errorf("timegrid.Parse(%q) has no error", s)
		}
		checkField(t, fieldClosed, s, e)
		checkField(t, fieldClosed, s+";Mo 1", e)
		checkField(t, fieldClosed, "Mo 1 odd;"+s, e)
		checkField(t, fieldClosed, "Mo 1;"+s+";x", e)
	}
	for _, s := range []string{";", "Mo 1;", ";Mo 1", "Mo 1;;Tu 1", "Mo 1; Tu 1", "Mo 1 ;Tu 1", "Mo 1 ; Tu 1", strings.Repeat(";", 100000)} {
		checkField(t, fieldClosed, s, api.ErrForm)
	}
	if rooms, p := Read([]api.Record{record(2, "R", "B", "1", "", "Mo 1 even;Mo 1 odd")}, grid(), 1); len(rooms) > 0 || !slices.Equal(p, []api.Problem{{Line: 2, Column: 55, Code: api.ErrEmpty}}) {
		t.Errorf("even weeks of one: %v, %v", rooms, p)
	}
}

// P7.2: all sets of wrong fields; the first one is reported, at its place.
func TestReadOrder(t *testing.T) {
	right := []string{"R1", "B", "30", "lab", "Mo 1"}
	wrong := []string{"?", "?", "030", "lab;", "Sa 1"}
	errors := []api.Errno{api.ErrCode, api.ErrCode, api.ErrForm, api.ErrForm, api.ErrTime}
	read := api.Room{Code: "R1", Building: "B", Seats: 30, Features: []string{"lab"}, Closed: []api.Time{{Weeks: 1023, Length: 1}}}
	for set := 1; set < 1<<len(right); set++ {
		fields := slices.Clone(right)
		first := -1
		for i := range fields {
			if set>>i&1 == 1 {
				fields[i] = wrong[i]
				if first < 0 {
					first = i
				}
			}
		}
		problem := api.Problem{Line: 2, Column: 11 * (first + 1), Code: errors[first]}
		checkRead(t, []api.Record{record(1, right...), record(2, fields...)}, []api.Room{read}, []api.Problem{problem})
		checkRead(t, []api.Record{record(2, fields...), record(3, right...)}, []api.Room{read}, []api.Problem{problem})
		checkRead(t, []api.Record{record(2, append(fields, "")...)}, nil, []api.Problem{{Line: 2, Code: api.ErrFields}})
	}
}

// P7.2: a code counts as read only where the room was read.
func TestReadDuplicate(t *testing.T) {
	r1, r2 := api.Room{Code: "R1", Building: "B", Seats: 1}, api.Room{Code: "R2", Building: "R1", Seats: 2}
	checkRead(t, []api.Record{
		record(1, "R1", "B", "0", "", ""),
		record(2, "R1", "B", "1", "", ""),
		record(3, "R1", "C", "9", "x", "Mo 1"),
		record(4, "R2", "R1", "2", "", ""),
		record(5, "R1", "B", "1", "", ""),
		record(6, "R2", "B", "1", "", ""),
		record(7, "R2", "B", "0", "", ""),
		record(8, "R2"),
	}, []api.Room{r1, r2}, []api.Problem{
		{Line: 1, Column: 33, Code: api.ErrForm},
		{Line: 3, Code: api.ErrDuplicate},
		{Line: 5, Code: api.ErrDuplicate},
		{Line: 6, Code: api.ErrDuplicate},
		{Line: 7, Column: 33, Code: api.ErrForm},
		{Line: 8, Code: api.ErrFields},
	})
	checkRead(t, []api.Record{record(1, "R1", "B", "1", "", ""), record(2, "r1", "B", "1", "", ""), record(3, "R01", "B", "1", "", "")},
		[]api.Room{r1, {Code: "r1", Building: "B", Seats: 1}, {Code: "R01", Building: "B", Seats: 1}}, nil)
}

// P7.2: no more than MaxRooms rooms; those that are left out do not count.
func TestReadSize(t *testing.T) {
	var l []api.Record
	var want []api.Room
	var problems []api.Problem
	for i, code := range texts("R", 20) {
		l = append(l, record(10*i, code, "B", "1", "", ""), record(10*i+1, code, "B", "1", "", ""), record(10*i+2, code, "B", "", "", ""))
		if i < 16 {
			want = append(want, api.Room{Code: code, Building: "B", Seats: 1})
			problems = append(problems, api.Problem{Line: 10*i + 1, Code: api.ErrDuplicate})
		} else {
			problems = append(problems, api.Problem{Line: 10 * i, Code: api.ErrSize}, api.Problem{Line: 10*i + 1, Code: api.ErrSize})
		}
		problems = append(problems, api.Problem{Line: 10*i + 2, Column: 33, Code: api.ErrForm})
	}
	l = append(l, record(300, "R10", "B", "1", "", ""), record(301, "?", "B", "1", "", ""), record(302))
	problems = append(problems, api.Problem{Line: 300, Code: api.ErrDuplicate}, api.Problem{Line: 301, Column: 11, Code: api.ErrCode}, api.Problem{Line: 302, Code: api.ErrFields})
	checkRead(t, l, want, problems)
}

// P7.2, R2: the records stay as they are, and rooms share no memory with each other.
func TestReadMemory(t *testing.T) {
	l := []api.Record{record(1, "R1", "B", "1", "z;a", "Mo 1;Mo 2"), record(2, "R2", "B", "1", "z;a", "Mo 1;Mo 2")}
	rooms, _ := Read(l, grid(), tenWeeks)
	if l[0].Fields[fieldFeatures].Text != "z;a" || l[1].Line != 2 || len(rooms) != 2 {
		t.Fatalf("after Read: %v, %v", l, rooms)
	}
	rooms[0].Features[0], rooms[0].Closed[0] = "q", api.Time{}
	_, _ = append(rooms[0].Features, "q"), append(rooms[0].Closed, api.Time{})
	again, _ := Read(l, grid(), tenWeeks)
	checkRooms(t, rooms[1:], again[1:])
	if again[0].Features[0] != "a" || again[0].Closed[0].Length != 1 {
		t.Errorf("second reading: %v", again)
	}
}
