package travel

import (
	"slices"
	"strconv"
	"strings"
	"testing"

	"timetable/api"
	"timetable/records"
)

// record returns a record whose fields are in the columns 11, 22, 33 and so on.
func record(line int, fields ...string) api.Record {
	r := api.Record{Line: line}
	for i, s := range fields {
		r.Fields = append(r.Fields, api.Field{Text: s, Column: 11 * (i + 1), Quoted: i%2 == 1})
	}
	return r
}

// recordsOf returns a record for each text, the fields of which are separated by commas; they stand in the lines from 1 on.
func recordsOf(texts ...string) []api.Record {
	var l []api.Record
	for i, s := range texts {
		l = append(l, record(i+1, strings.Split(s, ",")...))
	}
	return l
}

func checkRead(t *testing.T, l []api.Record, want api.Travel, problems []api.Problem) {
	t.Helper()
	x, p := Read(l)
	if !equalTables(x, want) {
		t.Errorf("table %v, want %v", x, want)
	}
	if !slices.Equal(p, problems) {
		t.Errorf("problems %v, want %v", p, problems)
	}
	if e := Valid(x); e != api.OK {
		t.Errorf("the table %v has the error %d", x, e)
	}
}

// checkField checks the error of a record that is right but for one field; with OK it is right at all.
func checkField(t *testing.T, i int, s string, e api.Errno) {
	t.Helper()
	fields := []string{"A", "B", "1"}
	fields[i] = s
	x, p := Read([]api.Record{record(7, fields...)})
	if e == api.OK {
		if len(x.Buildings) != 2 || len(p) != 0 {
			t.Errorf("field %d is %.60q: %v, %v", i, s, x, p)
		}
		return
	}
	if len(x.Buildings) != 0 || len(x.Slots) != 0 || !slices.Equal(p, []api.Problem{{Line: 7, Column: 11 * (i + 1), Code: e}}) {
		t.Errorf("field %d is %.60q: %v, %v; want the error %d", i, s, x, p, e)
	}
}

// P8.2: the buildings are in the order in which they are named first.
func TestRead(t *testing.T) {
	checkRead(t, nil, api.Travel{}, nil)
	checkRead(t, []api.Record{}, api.Travel{}, nil)
	checkRead(t, recordsOf("B,A,1"), api.Travel{Buildings: []string{"B", "A"}, Slots: [][]int{{0, 1}, {1, 0}}}, nil)
	checkRead(t, recordsOf("A,B,0"), api.Travel{Buildings: []string{"A", "B"}, Slots: [][]int{{0, 0}, {0, 0}}}, nil)
	checkRead(t, recordsOf("C,A,1", "B,A,24", "D,C,03"), api.Travel{
		Buildings: []string{"C", "A", "B", "D"},
		Slots:     [][]int{{0, 1, -1, 3}, {1, 0, 24, -1}, {-1, 24, 0, -1}, {3, -1, -1, 0}},
	}, nil)
	checkRead(t, recordsOf("C,D,1", "A,B,2", "B,C,3"), api.Travel{
		Buildings: []string{"C", "D", "A", "B"},
		Slots:     [][]int{{0, 1, -1, 3}, {1, 0, -1, -1}, {-1, -1, 0, 2}, {3, -1, 2, 0}},
	}, nil)
	checkRead(t, recordsOf("a,A,5", "A,A0,6", "A00,A0,7"), api.Travel{
		Buildings: []string{"a", "A", "A0", "A00"},
		Slots:     [][]int{{0, 5, -1, -1}, {5, 0, 6, -1}, {-1, 6, 0, 7}, {-1, -1, 7, 0}},
	}, nil)
}

// P8.2: other numbers of fields, whatever they say.
func TestReadFields(t *testing.T) {
	fields := []string{"A", "B", "1", "", "C", "2", "x", "", "", "", "", ""}
	for n := range len(fields) + 1 {
		if n != 3 {
			checkRead(t, []api.Record{record(3, fields[:n]...)}, api.Travel{}, []api.Problem{{Line: 3, Code: api.ErrFields}})
			checkRead(t, []api.Record{record(3, slices.Repeat([]string{"?"}, n)...)}, api.Travel{}, []api.Problem{{Line: 3, Code: api.ErrFields}})
		}
	}
	r := record(-5, "A", "B", "?")
	r.Fields[2].Column = -9
	checkRead(t, []api.Record{{Line: -4}, r, {}}, api.Travel{}, []api.Problem{{Line: -4, Code: api.ErrFields}, {Line: -5, Column: -9, Code: api.ErrForm}, {Code: api.ErrFields}})
}

// P8.2: what is no code.
func TestReadCodes(t *testing.T) {
	for i := range 2 {
		for _, s := range wrongCodes() {
			checkField(t, i, s, api.ErrCode)
		}
		for _, s := range []string{"X", "9", "a_", "a-", "a1", strings.Repeat("a", 16)} {
			checkField(t, i, s, api.OK)
		}
		checkField(t, i, "a1..a2", api.ErrCode)
	}
}

// P8.2: slots are one or two digits, and not too many.
func TestReadSlots(t *testing.T) {
	for n := range 1100 {
		s := strconv.Itoa(n)
		for _, text := range []string{s, "0" + s, "00" + s, "000" + s} {
			switch {
			case len(text) > 2:
				checkField(t, 2, text, api.ErrForm)
			case n > 24:
				checkField(t, 2, text, api.ErrRange)
			default:
				checkRead(t, []api.Record{record(1, "A", "B", text)}, api.Travel{Buildings: []string{"A", "B"}, Slots: [][]int{{0, n}, {n, 0}}}, nil)
			}
		}
	}
	for _, s := range []string{"", " ", "-", "-1", "+1", "+", "--", "1-", " 1", "1 ", "1.", ".1", "1,", "1_", "_1", "1e", "0x", "0b", "x", "x1", "1x", "1:", ":1", "1/", "/1", "1\x00", "\xff1", "\u0661", "\uff11", "1-2", strings.Repeat("0", 1000), strings.Repeat("9", 1000)} {
		checkField(t, 2, s, api.ErrForm)
	}
}

// P8.2: all sets of wrong fields; the first one is reported, at its place, before what is wrong with the record as a whole.
func TestReadOrder(t *testing.T) {
	for _, x := range []struct {
		slots string
		e     api.Errno
	}{{"", api.ErrForm}, {"001", api.ErrForm}, {"99", api.ErrRange}} {
		wrong, errors := []string{"?", "?", x.slots}, []api.Errno{api.ErrCode, api.ErrCode, x.e}
		for _, right := range [][]string{{"C", "D", "1"}, {"A", "B", "1"}, {"B", "A", "1"}, {"C", "C", "1"}} {
			for set := 1; set < 8; set++ {
				fields, first := slices.Clone(right), -1
				for i := range slices.Backward(fields) {
					if set>>i&1 == 1 {
						fields[i], first = wrong[i], i
					}
				}
				want := api.Travel{Buildings: []string{"A", "B"}, Slots: [][]int{{0, 1}, {1, 0}}}
				problem := api.Problem{Line: 2, Column: 11 * (first + 1), Code: errors[first]}
				checkRead(t, []api.Record{record(1, "A", "B", "1"), record(2, fields...)}, want, []api.Problem{problem})
				checkRead(t, []api.Record{record(2, fields...), record(3, "A", "B", "1")}, want, []api.Problem{problem})
			}
		}
	}
}

// P8.2: a way from a building to itself, known or not.
func TestReadEqual(t *testing.T) {
	want := api.Travel{Buildings: []string{"A", "B"}, Slots: [][]int{{0, 1}, {1, 0}}}
	checkRead(t, recordsOf("A,A,0", "A,B,1", "A,A,0", "B,B,1", "C,C,0", "C,C,0"), want, []api.Problem{
		{Line: 1, Code: api.ErrInvalid}, {Line: 3, Code: api.ErrInvalid}, {Line: 4, Code: api.ErrInvalid}, {Line: 5, Code: api.ErrInvalid}, {Line: 6, Code: api.ErrInvalid},
	})
	checkRead(t, recordsOf("A,B,1", "a,A,2"), api.Travel{Buildings: []string{"A", "B", "a"}, Slots: [][]int{{0, 1, 2}, {1, 0, -1}, {2, -1, 0}}}, nil)
}

// P8.2: a way counts as read only where it was read; the first one stays.
func TestReadDuplicate(t *testing.T) {
	checkRead(t, recordsOf("A,B,25", "A,B,1", "A,B,2", "B,A,3", "B,C,4", "C,B,4", "A,C,5", "A,B", "B,A,x", "C,A,5", "A,B,1"), api.Travel{
		Buildings: []string{"A", "B", "C"},
		Slots:     [][]int{{0, 1, 5}, {1, 0, 4}, {5, 4, 0}},
	}, []api.Problem{
		{Line: 1, Column: 33, Code: api.ErrRange},
		{Line: 3, Code: api.ErrDuplicate},
		{Line: 4, Code: api.ErrDuplicate},
		{Line: 6, Code: api.ErrDuplicate},
		{Line: 8, Code: api.ErrFields},
		{Line: 9, Column: 33, Code: api.ErrForm},
		{Line: 10, Code: api.ErrDuplicate},
		{Line: 11, Code: api.ErrDuplicate},
	})
}

// P8.2: records that are left out name no buildings.
func TestReadLeftOut(t *testing.T) {
	want := api.Travel{Buildings: []string{"B", "A"}, Slots: [][]int{{0, 1}, {1, 0}}}
	for _, x := range []struct {
		text    string
		problem api.Problem
	}{
		{"A,C", api.Problem{Line: 1, Code: api.ErrFields}},
		{"A,?,1", api.Problem{Line: 1, Column: 22, Code: api.ErrCode}},
		{"A,C,x", api.Problem{Line: 1, Column: 33, Code: api.ErrForm}},
		{"A,C,25", api.Problem{Line: 1, Column: 33, Code: api.ErrRange}},
		{"A,A,1", api.Problem{Line: 1, Code: api.ErrInvalid}},
	} {
		checkRead(t, recordsOf(x.text, "B,A,1"), want, []api.Problem{x.problem})
	}
}

// P8.2: no more than MaxBuildings buildings; ways between those that are known can still be read.
func TestReadSize(t *testing.T) {
	seven := tableOf(7, 1, 1, 1, 1, 1, 1)
	eight := tableOf(8, 1, 1, 1, 1, 1, 1)
	var l []string
	for _, s := range names(7)[1:] {
		l = append(l, "B0,"+s+",1")
	}
	checkRead(t, recordsOf(l...), seven, nil)
	checkRead(t, recordsOf(append(l, "X,Y,1")...), seven, []api.Problem{{Line: 7, Code: api.ErrSize}})
	checkRead(t, recordsOf(append(l, "X,Y,1", "X,X,1", "X,Y,1", "X,Y,25")...), seven, []api.Problem{
		{Line: 7, Code: api.ErrSize}, {Line: 8, Code: api.ErrInvalid}, {Line: 9, Code: api.ErrSize}, {Line: 10, Column: 33, Code: api.ErrRange},
	})
	eight.Slots[0][7], eight.Slots[7][0] = 9, 9
	checkRead(t, recordsOf(append(l, "X,Y,1", "B7,B0,9")...), eight, []api.Problem{{Line: 7, Code: api.ErrSize}})
	eight.Slots[3][7], eight.Slots[7][3] = 8, 8
	checkRead(t, recordsOf(append(l, "X,Y,1", "B7,B0,9", "B8,B0,1", "B7,B8,1", "B8,B7,1", "B3,B7,8", "B0,B7,1", "X,Y,1", "X,X,1")...), eight, []api.Problem{
		{Line: 7, Code: api.ErrSize}, {Line: 9, Code: api.ErrSize}, {Line: 10, Code: api.ErrSize}, {Line: 11, Code: api.ErrSize},
		{Line: 13, Code: api.ErrDuplicate}, {Line: 14, Code: api.ErrSize}, {Line: 15, Code: api.ErrInvalid},
	})
	checkRead(t, recordsOf("A,B,1", "C,D,1", "E,F,1", "G,H,1", "A,I,1", "I,A,1", "I,J,1"), func() api.Travel {
		x := tableOf(8)
		x.Buildings = strings.Split("ABCDEFGH", "")
		for i := 0; i < 8; i += 2 {
			x.Slots[i][i+1], x.Slots[i+1][i] = 1, 1
		}
		return x
	}(), []api.Problem{{Line: 5, Code: api.ErrSize}, {Line: 6, Code: api.ErrSize}, {Line: 7, Code: api.ErrSize}})
}

// P8.2, R2: the records stay as they are, and the rows of the table share no memory.
func TestReadMemory(t *testing.T) {
	l := recordsOf("A,B,1", "B,C,2", "C,C,1")
	x, _ := Read(l)
	again, _ := Read(l)
	x.Buildings[0] = "?"
	for i := range x.Slots {
		_ = append(x.Slots[i], 9)
		x.Slots[i][2] = 9 + i
	}
	if x.Slots[0][2] != 9 || x.Slots[1][2] != 10 || x.Slots[2][2] != 11 || x.Slots[1][0] != 1 || x.Slots[2][0] != -1 {
		t.Errorf("rows: %v", x.Slots)
	}
	want := api.Travel{Buildings: []string{"A", "B", "C"}, Slots: [][]int{{0, 1, -1}, {1, 0, 2}, {-1, 2, 0}}}
	if !equalTables(again, want) || l[0].Fields[0].Text != "A" || l[2].Line != 3 {
		t.Errorf("after Read: %v, %v", again, l)
	}
}

// A file of ways with what can be wrong in it.
func TestReadFile(t *testing.T) {
	file, _ := records.Parse("# ways\nA,B,1\n\n\"B\",'A,2\nB,\"A\",3\nB , C,1\nB,C,\"2\"\nC,D,\n", api.Dialect{Delimiter: ',', Quote: '"'})
	checkRead(t, file, api.Travel{Buildings: []string{"A", "B", "C"}, Slots: [][]int{{0, 1, -1}, {1, 0, 2}, {-1, 2, 0}}}, []api.Problem{
		{Line: 4, Column: 5, Code: api.ErrCode}, {Line: 5, Code: api.ErrDuplicate}, {Line: 6, Column: 1, Code: api.ErrCode}, {Line: 8, Column: 5, Code: api.ErrForm},
	})
}
