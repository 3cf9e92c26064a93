package model

import (
	"fmt"
	"slices"
	"testing"

	"timetable/api"
)

// P17.2: times in order, and at each of them rooms in order.
func TestOptions(t *testing.T) {
	r := campus()
	checkOptions(t, r, 0, []api.Placed{
		at(allWeeks, 0, 2, 2, 0), at(allWeeks, 0, 2, 2, 2), at(allWeeks, 0, 3, 2, 0), at(allWeeks, 0, 3, 2, 2), at(allWeeks, 1, 4, 2, 0), at(allWeeks, 1, 4, 2, 2),
	})
	checkOptions(t, r, 1, []api.Placed{ // bob is away on Tuesday
		at(allWeeks, 0, 2, 2, 0), at(allWeeks, 0, 2, 2, 2), at(allWeeks, 0, 3, 2, 0), at(allWeeks, 0, 3, 2, 2),
	})
	r.Classes[1].Patterns, r.Classes[1].Features = []int{evenWeeks, oddWeeks}, nil
	r.Classes[1].Starts = r.Classes[1].Starts[1:]
	checkOptions(t, r, 1, []api.Placed{ // Tuesday in even weeks is left out, and in odd weeks R2 on Monday
		at(evenWeeks, 0, 3, 2, 0), at(evenWeeks, 0, 3, 2, 1), at(evenWeeks, 0, 3, 2, 2),
		at(oddWeeks, 0, 3, 2, 0), at(oddWeeks, 0, 3, 2, 2), at(oddWeeks, 1, 4, 2, 0), at(oddWeeks, 1, 4, 2, 1), at(oddWeeks, 1, 4, 2, 2),
	})
}

// P17.2: the only ones who matter are the lecturers of the class, and all of them do.
func TestOptionsStaff(t *testing.T) {
	for set, want := range [][]int{{0, 8}, {0, 8}, {8}, {8}, {0}, {0}, {}, {}} { // the bits are ada, bob and eve
		r := campus()
		c := &r.Classes[1]
		c.Length, c.Patterns, c.Starts, c.Staff, c.Seats = 2, []int{1}, []api.Start{{Slot: 0}, {Slot: 8}}, nil, 0
		for i, x := range r.Staff {
			if set>>i&1 == 1 {
				c.Staff = append(c.Staff, x.Code)
			}
		}
		var p []api.Placed
		for _, slot := range want {
			p = append(p, at(1, 0, slot, 2, -1))
		}
		checkOptions(t, r, 1, p)
		slices.Reverse(r.Staff)
		checkOptions(t, r, 1, p)
	}
}

// P17.2: a class that needs no seats has no room, whatever features it needs, and whether there are rooms or not.
func TestOptionsNoRoom(t *testing.T) {
	for _, features := range [][]string{nil, {"lab"}, {"pool"}} {
		for rooms := range 4 {
			r := campus()
			r.Rooms = r.Rooms[:rooms]
			r.Classes[0].Seats, r.Classes[0].Features = 0, features
			checkOptions(t, r, 0, []api.Placed{at(allWeeks, 0, 2, 2, -1), at(allWeeks, 0, 3, 2, -1), at(allWeeks, 1, 4, 2, -1)})
		}
	}
}

// P17.2: rooms that do not fit, and those that are closed.
func TestOptionsRooms(t *testing.T) {
	for _, x := range []struct {
		seats    int
		features []string
		slot     int
		rooms    []int
	}{
		{1, nil, 4, []int{0, 1, 2}},
		{10, nil, 4, []int{0, 1, 2}},
		{11, nil, 4, []int{0, 2}},
		{21, nil, 4, []int{2}},
		{30, nil, 4, []int{2}},
		{31, nil, 4, nil},
		{1, []string{"beamer"}, 4, []int{0, 1, 2}},
		{1, []string{"beamer", "lab"}, 4, []int{0, 2}},
		{1, []string{"sink"}, 4, []int{2}},
		{1, []string{"lab", "pool"}, 4, nil},
		{1, nil, 3, []int{0, 2}},
		{1, nil, 1, []int{0, 2}},
		{1, nil, 0, []int{0, 1, 2}},
		{11, []string{"sink"}, 3, []int{2}},
	} {
		r := campus()
		c := &r.Classes[0]
		c.Seats, c.Features, c.Starts = x.seats, x.features, []api.Start{{Slot: x.slot}}
		var p []api.Placed
		for _, room := range x.rooms {
			p = append(p, at(allWeeks, 0, x.slot, 2, room))
		}
		checkOptions(t, r, 0, p)
		slices.Reverse(r.Rooms)
		for i := range p {
			p[i].Room = 2 - p[i].Room
		}
		slices.Reverse(p)
		checkOptions(t, r, 0, p)
	}
}

// P17.2: without starts there are those of the whole week; holidays and other classes do not matter.
func TestOptionsWeek(t *testing.T) {
	r := campus()
	c := &r.Classes[2]
	c.Length, c.Seats, c.Starts, c.Patterns = 7, 0, nil, []int{5}
	var p []api.Placed
	for day := range 5 {
		for slot := range 4 {
			p = append(p, at(5, day, slot, 7, -1))
		}
	}
	checkOptions(t, r, 2, p)
	r.Classes = slices.Repeat([]api.Class{*c}, 24)
	for i := range r.Classes {
		r.Classes[i].Code, r.Classes[i].Course = fmt.Sprint("K", i), []string{"MA", "PH"}[i%2]
	}
	for i := range 24 {
		checkOptions(t, r, i, p)
	}
}

// P17.2: as many options as are permitted, and one more.
func TestOptionsSize(t *testing.T) {
	week := func(days, slots, seats, rooms int, patterns ...int) api.Registry {
		r := api.Registry{Grid: api.Grid{Days: days, Slots: slots, Begin: 0, Minutes: 5}, Term: api.Term{First: 2, Weeks: tenWeeks}}
		for i := range rooms {
			r.Rooms = append(r.Rooms, api.Room{Code: fmt.Sprint("R", i), Building: "B", Seats: 10})
		}
		r.Classes = []api.Class{{Code: "a", Course: "b", Part: "c", Length: 1, Seats: seats, Patterns: patterns}}
		return r
	}
	for _, x := range []struct {
		r api.Registry
		n int
	}{
		{week(1, 24, 0, 0, 1), 24},
		{week(6, 4, 0, 0, 1), 24},
		{week(1, 3, 0, 0, 1, 2, 3, 4, 5, 6, 7, 8), 24},
		{week(1, 8, 5, 3, 1), 24},
		{week(2, 1, 5, 12, 1), 24},
		{week(1, 1, 5, 12, 1, 2), 24},
		{week(1, 1, 5, 16, 1), 16},
		{week(5, 5, 0, 0, 1), 25},
		{week(1, 13, 0, 0, 1, 2), 26},
		{week(2, 1, 5, 13, 1), 26},
		{week(7, 24, 5, 16, 1, 2, 3, 4, 5, 6, 7, 8), 21504},
	} {
		if x.n > api.MaxOptions {
			checkNoOptions(t, x.r, 0, api.ErrSize)
			checkNoBuild(t, x.r, api.ErrSize)
			continue
		}
		if p, e := Options(x.r, 0); len(p) != x.n || e != api.OK {
			t.Errorf("%d options of %v, and the error %d; want %d", len(p), x.r.Classes[0], e, x.n)
		}
		m, _ := Build(x.r)
		checkValid(t, m, api.OK)
	}
	// The starts that are too many are those at which nobody can be there, or no room is open.
	r := week(5, 5, 5, 1, 1)
	r.Rooms[0].Closed = []api.Time{{Weeks: 1, Day: 4, Start: 4, Length: 1}}
	if p, e := Options(r, 0); len(p) != 24 || e != api.OK {
		t.Errorf("%d options, and the error %d, with a closed room", len(p), e)
	}
	r = week(5, 5, 0, 0, 1)
	r.Staff = []api.Lecturer{{Code: "ada", Away: []api.Time{{Weeks: 1, Start: 0, Length: 1}}}}
	r.Classes[0].Staff = []string{"ada"}
	if p, e := Options(r, 0); len(p) != 24 || e != api.OK {
		t.Errorf("%d options, and the error %d, with a lecturer who is away", len(p), e)
	}
}

// P17.2: errors in their order.
func TestOptionsErrors(t *testing.T) {
	for _, r := range invalid() {
		for _, class := range append(extremes(), -1, 0, 1, 3, 4, 24) {
			checkNoOptions(t, r, class, api.ErrInvalid)
		}
		if len(r.Classes) > 0 {
			tooMany(&r.Classes[0])
			checkNoOptions(t, r, 0, api.ErrInvalid)
		}
	}
	r := campus()
	tooMany(&r.Classes[0])
	tooMany(&r.Classes[3])
	for _, class := range append(extremes(), -2, -1, 4, 5, 24) {
		checkNoOptions(t, r, class, api.ErrRange)
		checkNoOptions(t, api.Registry{Grid: r.Grid, Term: r.Term}, class, api.ErrRange)
	}
	checkNoOptions(t, api.Registry{Grid: r.Grid, Term: r.Term}, 0, api.ErrRange)
	checkNoOptions(t, r, 0, api.ErrSize)
	checkNoOptions(t, r, 3, api.ErrSize)
	checkOptions(t, r, 1, []api.Placed{at(allWeeks, 0, 2, 2, 0), at(allWeeks, 0, 2, 2, 2), at(allWeeks, 0, 3, 2, 0), at(allWeeks, 0, 3, 2, 2)})
}

// R2: the registry is not changed.
func TestOptionsKept(t *testing.T) {
	r := campus()
	before := fmt.Sprint(r)
	for i := range r.Classes {
		p, _ := Options(r, i)
		for k := range p {
			p[k] = at(9, 9, 9, 9, 9)
		}
	}
	if m, _ := Build(r); len(m.Pairs) > 0 {
		m.Pairs[0].Table[0], m.Classes[0][0].Place = 9, at(9, 9, 9, 9, 9)
	}
	if fmt.Sprint(r) != before {
		t.Errorf("the registry is now %v", r)
	}
}

// The examples of the chapter.
func TestExamples(t *testing.T) {
	r := campus()
	r.Classes[0].Seats, r.Classes[0].Starts = 5, []api.Start{{Day: 2, Slot: 0}, {Day: 3, Slot: 0}}
	if p, e := Options(r, 0); len(p) != 6 || e != api.OK {
		t.Errorf("a class with two starts and three rooms: %v, %d", p, e)
	}
	r.Staff[0].Away = nil
	for day := range 5 {
		r.Staff[0].Away = append(r.Staff[0].Away, api.Time{Weeks: allWeeks, Day: day, Start: 0, Length: 10})
	}
	checkOptions(t, r, 0, nil)
}
