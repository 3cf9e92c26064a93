package model

import (
	"fmt"
	"slices"
	"testing"

	"timetable/api"
)

const no = api.Forbidden

// pair returns a registry of two classes of one slot, with a start at each of the first slots of Monday and Tuesday, and two rooms.
func pair() api.Registry {
	return with(func(r *api.Registry) {
		r.Rooms, r.Classes, r.Curricula, r.Requests = r.Rooms[:2], r.Classes[:2], nil, nil
		r.Rooms[1].Closed = nil
		r.Staff[1].Away, r.Staff[2].Away = nil, nil
		for i := range r.Classes {
			c := &r.Classes[i]
			c.Length, c.Seats, c.Features, c.Staff = 1, 5, nil, nil
			c.Starts = []api.Start{{Day: 0, Slot: 0}, {Day: 1, Slot: 0}}
		}
	})
}

// checkPairs checks the tables of the only pair of a registry of two classes under both rules; none if it is left out.
func checkPairs(t *testing.T, r api.Registry, rooms, staff []int) {
	t.Helper()
	m, e := Build(r)
	var want []api.Pair
	for rule, table := range [][]int{rooms, staff} {
		if table != nil {
			want = append(want, api.Pair{First: 0, Second: 1, Rule: rule, Table: table})
		}
	}
	if e != api.OK || fmt.Sprint(m.Pairs) != fmt.Sprint(want) {
		t.Errorf("Build(%s) = %v, %d; want the pairs %v", short(r), m.Pairs, e, want)
	}
}

// P17.3: options, without charges and counts, and rules.
func TestBuild(t *testing.T) {
	r := campus()
	r.Classes[3].Seats, r.Classes[3].Staff, r.Classes[3].Starts = 0, nil, []api.Start{{Day: 0, Slot: 3}}
	want := api.Model{Rules: 2}
	for i := range r.Classes {
		places, _ := Options(r, i)
		want.Classes = append(want.Classes, nil)
		for _, place := range places {
			want.Classes[i] = append(want.Classes[i], api.Option{Place: place})
		}
	}
	long := []int{
		no, 0, no, 0, 0, 0,
		0, no, 0, no, 0, 0,
		no, 0, no, 0, 0, 0,
		0, no, 0, no, 0, 0,
		0, 0, 0, 0, no, 0,
		0, 0, 0, 0, 0, no,
	}
	var short []int // K1 has no options on Tuesday
	for row := range slices.Chunk(long, 6) {
		short = append(short, row[:4]...)
	}
	want.Pairs = []api.Pair{
		{First: 0, Second: 1, Table: short},
		{First: 0, Second: 2, Table: long},
		{First: 1, Second: 2, Table: long[:24]},
		{First: 0, Second: 2, Rule: 1, Table: []int{
			no, no, no, no, 0, 0,
			no, no, no, no, 0, 0,
			no, no, no, no, 0, 0,
			no, no, no, no, 0, 0,
			0, 0, 0, 0, no, no,
			0, 0, 0, 0, no, no,
		}},
	}
	checkBuild(t, r, want)
	checkValid(t, want, api.OK)
}

// P17.3: registries without classes, without rooms, and classes without options.
func TestBuildEmpty(t *testing.T) {
	r := campus()
	bare := api.Registry{Grid: r.Grid, Term: r.Term}
	checkBuild(t, bare, api.Model{Rules: 2})
	bare.Classes, bare.Staff = r.Classes, r.Staff // which need rooms
	checkBuild(t, bare, api.Model{Classes: make([][]api.Option, 4), Rules: 2})
	bare.Classes = slices.Clone(bare.Classes)
	bare.Classes[2].Seats, bare.Classes[2].Starts = 0, []api.Start{{}}
	checkBuild(t, bare, api.Model{Classes: [][]api.Option{2: {{Place: at(allWeeks, 0, 0, 2, -1)}}, 3: nil}, Rules: 2})
}

// P17.3: the rule of rooms.
func TestBuildRooms(t *testing.T) {
	r := pair() // each class has the options Monday and Tuesday, each in R1 and in R2
	both := []int{no, 0, 0, 0, 0, no, 0, 0, 0, 0, no, 0, 0, 0, 0, no}
	checkPairs(t, r, both, nil)
	r.Classes[0].Patterns, r.Classes[1].Patterns = []int{oddWeeks}, []int{evenWeeks}
	checkPairs(t, r, nil, nil)
	r.Classes[1].Patterns = []int{evenWeeks | 1}
	checkPairs(t, r, both, nil)
	r.Classes[1].Seats = 11 // not in R2
	checkPairs(t, r, []int{no, 0, 0, 0, 0, no, 0, 0}, nil)
	r.Classes[0].Features = []string{"beamer"}
	checkPairs(t, r, []int{no, 0, 0, 0, 0, no, 0, 0}, nil)
	r.Rooms[0].Seats, r.Rooms[1].Features = 15, nil // R1 is the only one for either
	checkPairs(t, r, []int{no, 0, 0, no}, nil)
	r.Classes[0].Features, r.Classes[0].Seats, r.Rooms[0].Features = nil, 1, nil
	r.Rooms[0].Closed = []api.Time{{Weeks: allWeeks, Day: 0, Start: 0, Length: 1}} // on Monday R2 alone, which is too small
	checkPairs(t, r, []int{0, no, 0}, nil)
	r.Classes[1].Seats = 0
	checkPairs(t, r, nil, nil)
	r.Classes[0].Seats = 0
	checkPairs(t, r, nil, nil)
	r.Classes[1].Seats = 1
	checkPairs(t, r, nil, nil)
}

// P17.3: the rule of staff.
func TestBuildStaff(t *testing.T) {
	lists := [][]string{nil, {"ada"}, {"bob"}, {"ada", "bob"}, {"ada", "eve"}, {"bob", "eve"}, {"ada", "bob", "eve"}, {"eve"}}
	for _, a := range lists {
		for _, b := range lists {
			r := pair()
			r.Classes[0].Seats, r.Classes[1].Seats = 0, 0
			r.Classes[0].Staff, r.Classes[1].Staff = a, b
			isCommon := func(code string) bool { return slices.Contains(b, code) }
			if !slices.ContainsFunc(a, isCommon) {
				checkPairs(t, r, nil, nil)
				continue
			}
			checkPairs(t, r, nil, []int{no, 0, 0, no})
			r.Classes[0].Seats = 11 // in R1
			checkPairs(t, r, nil, []int{no, 0, 0, no})
			r.Classes[1].Seats = 12
			checkPairs(t, r, []int{no, 0, 0, no}, []int{no, 0, 0, no})
			r.Classes[1].Seats, r.Rooms[1].Features = 1, []string{"pool"}
			r.Classes[1].Features = []string{"pool"} // in R2
			checkPairs(t, r, nil, []int{no, 0, 0, no})
			r.Classes[0].Patterns, r.Classes[1].Patterns = []int{oddWeeks}, []int{evenWeeks}
			checkPairs(t, r, nil, nil)
			r.Classes[0].Patterns = []int{oddWeeks, allWeeks}
			checkPairs(t, r, nil, []int{0, 0, 0, 0, no, 0, 0, no})
		}
	}
}

// P17.3: classes of different lengths, which overlap in part.
func TestBuildOverlap(t *testing.T) {
	r := pair()
	for i := range r.Classes {
		c := &r.Classes[i]
		c.Length, c.Seats, c.Staff, c.Starts = 3-i, 0, []string{"ada"}, nil
		for slot := range 6 {
			c.Starts = append(c.Starts, api.Start{Slot: slot})
		}
	}
	checkPairs(t, r, nil, []int{ // three slots and two slots
		no, no, no, 0, 0, 0,
		no, no, no, no, 0, 0,
		0, no, no, no, no, 0,
		0, 0, no, no, no, no,
		0, 0, 0, no, no, no,
		0, 0, 0, 0, no, no,
	})
}

// P17.3: as many pairs as there can be, in order.
func TestBuildPairs(t *testing.T) {
	r := pair()
	r.Classes = slices.Repeat(r.Classes[:1], 24)
	for i := range r.Classes {
		r.Classes[i].Code, r.Classes[i].Staff = fmt.Sprint("K", i), []string{"eve"}
	}
	m, e := Build(r)
	checkValid(t, m, api.OK)
	if e != api.OK || len(m.Pairs) != 2*24*23/2 {
		t.Fatalf("%d pairs, error %d", len(m.Pairs), e)
	}
	i := 0
	for rule := range 2 {
		for first := range 24 {
			for second := first + 1; second < 24; second++ {
				if p := m.Pairs[i]; p.Rule != rule || p.First != first || p.Second != second || len(p.Table) != 16 {
					t.Errorf("pair %d is %v", i, p)
				}
				i++
			}
		}
	}
	m.Pairs[0].Table[1] = 5 // R2: results share no memory
	if other, _ := Build(r); m.Pairs[1].Table[1] != 0 || other.Pairs[0].Table[1] != 0 {
		t.Errorf("tables share memory")
	}
}

// P17.3: errors in their order.
func TestBuildErrors(t *testing.T) {
	for _, r := range invalid() {
		checkNoBuild(t, r, api.ErrInvalid)
		for i := range r.Classes {
			tooMany(&r.Classes[i])
		}
		checkNoBuild(t, r, api.ErrInvalid)
	}
	for i := range 4 {
		r := campus()
		tooMany(&r.Classes[i])
		checkNoBuild(t, r, api.ErrSize)
		tooMany(&r.Classes[3-i])
		checkNoBuild(t, r, api.ErrSize)
	}
}
