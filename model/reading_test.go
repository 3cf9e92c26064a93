package model

import (
	"fmt"
	"maps"
	"math/rand/v2"
	"slices"
	"testing"

	"timetable/api"
)

// A cell is a slot of a day in one week.
type cell struct{ week, day, slot int }

// cellsOf returns the cells of a time.
func cellsOf(x api.Time) map[cell]bool {
	l := map[cell]bool{}
	for week := range 20 {
		for i := range x.Length {
			if x.Weeks>>week&1 == 1 {
				l[cell{week, x.Day, x.Start + i}] = true
			}
		}
	}
	return l
}

// share reports whether two sets have a common element.
func share[K comparable](a, b map[K]bool) bool {
	for x := range a {
		if b[x] {
			return true
		}
	}
	return false
}

func setOf(l []string) map[string]bool {
	set := map[string]bool{}
	for _, x := range l {
		set[x] = true
	}
	return set
}

// taken returns the cells of a list of times.
func taken(l []api.Time) map[cell]bool {
	set := map[cell]bool{}
	for _, x := range l {
		maps.Copy(set, cellsOf(x))
	}
	return set
}

// isPlace reports whether a class may begin there and be held in a room (-1: none).
func isPlace(r api.Registry, c api.Class, p api.Placed) bool {
	if len(c.Starts) > 0 && !slices.Contains(c.Starts, api.Start{Day: p.Time.Day, Slot: p.Time.Start}) {
		return false
	}
	cells := cellsOf(p.Time)
	for _, x := range r.Staff {
		if setOf(c.Staff)[x.Code] && share(taken(x.Away), cells) {
			return false
		}
	}
	if p.Room < 0 || c.Seats == 0 {
		return p.Room < 0 && c.Seats == 0
	}
	room := r.Rooms[p.Room]
	features := setOf(room.Features)
	for _, x := range c.Features {
		if !features[x] {
			return false
		}
	}
	return c.Seats <= room.Seats && !share(taken(room.Closed), cells)
}

// placesRead returns all places of a class, by another reading: all that there are, in order, and those of them that are possible.
func placesRead(r api.Registry, c api.Class) []api.Placed {
	var l []api.Placed
	for _, weeks := range c.Patterns {
		for day := range r.Grid.Days {
			for end := c.Length; end <= r.Grid.Slots; end++ {
				for room := -1; room < len(r.Rooms); room++ {
					if p := at(weeks, day, end-c.Length, c.Length, room); isPlace(r, c, p) {
						l = append(l, p)
					}
				}
			}
		}
	}
	return l
}

// entryRead returns an entry by another reading.
func entryRead(rule int, c, d api.Class, a, b api.Placed) int {
	if !share(cellsOf(a.Time), cellsOf(b.Time)) {
		return 0
	}
	if rule == 0 && a.Room >= 0 && a.Room == b.Room || rule == 1 && share(setOf(c.Staff), setOf(d.Staff)) {
		return no
	}
	return 0
}

// modelRead returns the model of classes with these places by another reading.
func modelRead(r api.Registry, places [][]api.Placed) api.Model {
	m := api.Model{Rules: 2}
	for _, l := range places {
		var options []api.Option
		for _, p := range l {
			options = append(options, api.Option{Place: p})
		}
		m.Classes = append(m.Classes, options)
	}
	for i := range 2 * len(places) * len(places) {
		x := api.Pair{Rule: i / len(places) / len(places), First: i / len(places) % len(places), Second: i % len(places)}
		isZero := true
		for _, a := range places[x.First] {
			for _, b := range places[x.Second] {
				entry := entryRead(x.Rule, r.Classes[x.First], r.Classes[x.Second], a, b)
				x.Table = append(x.Table, entry)
				isZero = isZero && entry == 0
			}
		}
		if x.First < x.Second && !isZero {
			m.Pairs = append(m.Pairs, x)
		}
	}
	return m
}

func anyTime(random *rand.Rand, g api.Grid) api.Time {
	start := random.IntN(g.Slots)
	return api.Time{Weeks: 1 + random.IntN(15), Day: random.IntN(g.Days), Start: start, Length: 1 + random.IntN(g.Slots-start)}
}

// some returns some elements of a list.
func some[T any](random *rand.Rand, l ...T) []T {
	var chosen []T
	for _, x := range l {
		if random.IntN(2) == 0 {
			chosen = append(chosen, x)
		}
	}
	return chosen
}

// anyRegistry returns a small registry in which classes often clash.
func anyRegistry(random *rand.Rand) api.Registry {
	g := api.Grid{Days: 1 + random.IntN(3), Slots: 1 + random.IntN(5), Begin: 0, Minutes: 5}
	r := api.Registry{Grid: g, Term: api.Term{First: 2, Weeks: 4}}
	for i := range random.IntN(4) {
		room := api.Room{Code: fmt.Sprint("R", i), Building: "B", Seats: 1 + random.IntN(3), Features: some(random, "f", "g")}
		for range random.IntN(3) {
			room.Closed = append(room.Closed, anyTime(random, g))
		}
		r.Rooms = append(r.Rooms, room)
	}
	for _, code := range []string{"ada", "bob"} {
		x := api.Lecturer{Code: code}
		for range random.IntN(3) {
			x.Away = append(x.Away, anyTime(random, g))
		}
		r.Staff = append(r.Staff, x)
	}
	for i := range 1 + random.IntN(4) {
		c := api.Class{Code: fmt.Sprint("K", i), Course: "a", Part: "b", Length: 1 + random.IntN(min(3, g.Slots)), Seats: random.IntN(3), Staff: some(random, "ada", "bob")}
		c.Patterns = []int{1 + random.IntN(15)}
		if other := 1 + random.IntN(15); other != c.Patterns[0] {
			c.Patterns = append(c.Patterns, other)
		}
		if random.IntN(3) == 0 {
			c.Features = some(random, "f", "g")
		}
		for i := range g.Days * g.Slots * random.IntN(2) {
			if start := (api.Start{Day: i / g.Slots, Slot: i % g.Slots}); start.Slot+c.Length <= g.Slots {
				c.Starts = append(c.Starts, some(random, start)...)
			}
		}
		r.Classes = append(r.Classes, c)
	}
	return r
}

// P17.2, P17.3 and the consequence, another reading: times as sets of cells, for any registries.
func TestReading(t *testing.T) {
	random := rand.New(rand.NewPCG(17, 1))
	built, clashing, refused := 0, 0, 0
	for range 3000 {
		r := anyRegistry(random)
		var places [][]api.Placed
		tooMany := false
		for i, c := range r.Classes {
			p := placesRead(r, c)
			places = append(places, p)
			if len(p) > 24 {
				checkNoOptions(t, r, i, api.ErrSize)
				tooMany = true
			} else {
				checkOptions(t, r, i, p)
			}
		}
		if tooMany {
			checkNoBuild(t, r, api.ErrSize)
			refused++
			continue
		}
		want := modelRead(r, places)
		checkBuild(t, r, want)
		checkValid(t, want, api.OK)
		built++
		clashing += min(len(want.Pairs), 1)
	}
	if min(built, clashing, refused) < 100 {
		t.Errorf("%d registries, %d of them with clashes, and %d with too many options", built, clashing, refused)
	}
}

// The consequences: of a plan without a Forbidden entry no two classes share a room or a lecturer at a time, and Placement of Plan is what Plan was given.
func TestConsequences(t *testing.T) {
	random := rand.New(rand.NewPCG(17, 2))
	sound, clashing := 0, 0
	for range 3000 {
		r := anyRegistry(random)
		m, e := Build(r)
		hasEmpty := slices.ContainsFunc(m.Classes, func(options []api.Option) bool { return len(options) == 0 })
		if e != api.OK || hasEmpty {
			continue
		}
		var plan []int
		var p []api.Placed
		for _, options := range m.Classes {
			plan = append(plan, random.IntN(len(options)))
			p = append(p, options[plan[len(plan)-1]].Place)
		}
		checkPlan(t, m, plan, p)
		checkFound(t, m, p, plan)
		isForbidden, shares := false, false
		for _, x := range m.Pairs {
			entry := x.Table[plan[x.First]*len(m.Classes[x.Second])+plan[x.Second]]
			isForbidden = isForbidden || entry == api.Forbidden
		}
		for i := range p {
			for k := range i {
				for rule := range 2 {
					shares = shares || entryRead(rule, r.Classes[k], r.Classes[i], p[k], p[i]) != 0
				}
			}
		}
		if isForbidden != shares {
			t.Errorf("Build(%s): the placement %v has a Forbidden entry: %v", short(r), p, isForbidden)
		}
		if shares {
			clashing++
		} else {
			sound++
		}
	}
	if min(sound, clashing) < 100 {
		t.Errorf("%d plans with clashes, and %d without", clashing, sound)
	}
}
