package roomfile

import (
	"slices"
	"strings"
	"testing"

	"timetable/api"
	"timetable/records"
	"timetable/timegrid"
)

func checkWrite(t *testing.T, l []api.Room, want [][]string) {
	t.Helper()
	w, e := Write(l, grid(), tenWeeks)
	if e != api.OK || !slices.EqualFunc(w, want, slices.Equal) {
		t.Errorf("Write(%v) = %v, %d; want %v", l, w, e, want)
	}
}

// P7.3: the fields of rooms.
func TestWrite(t *testing.T) {
	checkWrite(t, nil, nil)
	checkWrite(t, []api.Room{
		room(),
		{Code: "R0", Building: "B", Seats: 1},
		{Code: "A", Building: "A", Seats: 9999, Features: []string{"a10", "a11", "a12", "b"}, Closed: []api.Time{
			{Weeks: 1023, Day: 4, Start: 9, Length: 1}, {Weeks: 31, Day: 0, Start: 0, Length: 10}, {Weeks: 71, Day: 1, Start: 2, Length: 3}, {Weeks: 1023, Day: 4, Start: 9, Length: 1},
		}},
		{Code: "B", Building: "A", Seats: 12, Features: []string{"a10", "a11", "a8", "a9"}, Closed: []api.Time{}},
	}, [][]string{
		{"R1", "B", "30", "beamer;lab", "Mo 1-2 odd"},
		{"R0", "B", "1", "", ""},
		{"A", "A", "9999", "a10..a12;b", "Fr 10;Mo 1-10 first;Tu 3-5 1-3,7;Fr 10"},
		{"B", "A", "12", "a10;a11;a8;a9", ""},
	})
}

// P7.3: the number of weeks tells what is all of them.
func TestWriteWeeks(t *testing.T) {
	r := api.Room{Code: "R", Building: "B", Seats: 1, Closed: []api.Time{{Weeks: 3, Length: 1}}}
	for weeks := 2; weeks <= 20; weeks++ {
		want, _ := timegrid.Format(grid(), weeks, r.Closed[0])
		if w, e := Write([]api.Room{r}, grid(), weeks); e != api.OK || w[0][fieldClosed] != want {
			t.Errorf("Write in %d weeks: %v, %d", weeks, w, e)
		}
	}
	if w, e := Write([]api.Room{r}, grid(), 2); e != api.OK || w[0][fieldClosed] != "Mo 1" {
		t.Errorf("Write in 2 weeks: %v, %d", w, e)
	}
	if w, e := Write([]api.Room{r}, grid(), 1); e != api.ErrTime || len(w) > 0 {
		t.Errorf("Write in 1 week: %v, %d", w, e)
	}
}

// P7.3, R2: the rooms stay as they are.
func TestWriteMemory(t *testing.T) {
	l := []api.Room{room(), {Code: "R2", Building: "B", Seats: 1, Features: texts("f", 8), Closed: slices.Repeat([]api.Time{{Weeks: 1, Length: 1}}, 24)}}
	w, _ := Write(l, grid(), tenWeeks)
	clear(w[0])
	checkRooms(t, l[:1], []api.Room{room()})
	if w[1][fieldFeatures] != "f10..f17" || strings.Count(w[1][fieldClosed], "Mo 1 1;") != 23 {
		t.Errorf("Write: %v", w)
	}
}

// sample returns rooms of many kinds.
func sample() []api.Room {
	features := [][]string{nil, {"a"}, {"B", "a"}, {"a10", "a9"}, {"a01", "a02", "a03"}, {"1", "2", "3", "4"}, texts("f", 8)}
	seats := []int{1, 9, 10, 999, 1000, 9999}
	var l []api.Room
	for i, code := range append(texts("R", 13), "a", "9_-", strings.Repeat("Z", 16)) {
		r := api.Room{Code: code, Building: "B" + code[:1], Seats: seats[i%len(seats)], Features: features[i%len(features)]}
		for k := range i * 24 / 15 {
			r.Closed = append(r.Closed, api.Time{Weeks: 1 + (97*i+331*k)%1023, Day: (i + k) % 5, Start: k % 7, Length: 1 + (i+k)%3})
		}
		l = append(l, r)
	}
	return l
}

// The consequence: Read of Write gives the rooms, through a file as well.
func TestWriteAndRead(t *testing.T) {
	l := sample()
	w, e := Write(l, grid(), tenWeeks)
	if e != api.OK {
		t.Fatalf("Write: %d", e)
	}
	var direct []api.Record
	for i, fields := range w {
		direct = append(direct, record(i+1, fields...))
	}
	checkRead(t, direct, l, nil)
	for _, delimiter := range []byte(",;|\t") {
		for _, quote := range []byte("\"'") {
			d := api.Dialect{Delimiter: delimiter, Quote: quote}
			text, e := records.Format(w, d)
			file, problems := records.Parse(text, d)
			if e != api.OK || len(problems) > 0 {
				t.Errorf("file in %v: %d, %v", d, e, problems)
			}
			checkRead(t, file, l, nil)
		}
	}
}

// What Read returns is valid, and Write of it is read again.
func TestReadIsValid(t *testing.T) {
	text := "R1,B,30,lab;beamer,Mo 1-2 odd\nR1,B,30,,\n# R3\n\nR2,B,5,a9..a11,\"Tu 3 1-3,7;Tu 3\"\nR3,B,0,,\nR4,?,1,,\nR5,B,1,a..b,\nR6,B,1,,Mo 10-11\n\"R7\",'B,1,,\nR8,B,1,,Fr 10\nR9,B,1\n"
	d := api.Dialect{Delimiter: ',', Quote: '"'}
	file, _ := records.Parse(text, d)
	rooms, problems := Read(file, grid(), tenWeeks)
	want := []api.Problem{
		{Line: 2, Code: api.ErrDuplicate}, {Line: 6, Column: 6, Code: api.ErrForm}, {Line: 7, Column: 4, Code: api.ErrCode}, {Line: 8, Column: 8, Code: api.ErrRange},
		{Line: 9, Column: 9, Code: api.ErrTime}, {Line: 10, Column: 6, Code: api.ErrCode}, {Line: 12, Code: api.ErrFields},
	}
	if !slices.Equal(problems, want) {
		t.Errorf("problems %v, want %v", problems, want)
	}
	if len(rooms) != 3 || Valid(rooms, grid(), tenWeeks) != api.OK {
		t.Errorf("rooms: %v", rooms)
	}
	checkWrite(t, rooms, [][]string{{"R1", "B", "30", "beamer;lab", "Mo 1-2 odd"}, {"R2", "B", "5", "a10;a11;a9", "Tu 3 1-3,7;Tu 3"}, {"R8", "B", "1", "", "Fr 10"}})
}
