package rules

import (
	"math/bits"
	"math/rand/v2"
	"slices"
	"testing"

	"timetable/api"
)

// A time, as the second reading sees it: the weeks and the slots as sets of bits; without slots if it is not sound.
type stay struct {
	weeks, slots uint
	day          int
}

func stayOf(x api.Time) stay {
	for _, n := range []int{x.Weeks, x.Length} {
		if n < 1 || n > 1<<20-1 {
			return stay{}
		}
	}
	if x.Day < 0 || x.Day > 6 || x.Start < 0 || x.Start > 23 || x.Length > 24-x.Start {
		return stay{}
	}
	return stay{uint(x.Weeks), (1<<x.Length - 1) << x.Start, x.Day}
}

func (s stay) isSound() bool { return s.slots != 0 }

func (s stay) meets(t stay) bool { return s.weeks&t.weeks != 0 && s.day == t.day }

// start returns the first slot of the week, if all days had 24.
func (s stay) start() int { return 24*s.day + bits.TrailingZeros(s.slots) }

// last returns the last slot of the week, likewise.
func (s stay) last() int { return 24*s.day + bits.Len(s.slots) - 1 }

// parts returns whether a rule is violated by two classes, the first of which belongs to its first selection, and the other one to the other.
func parts(r api.Registry, u api.Rule, a, b api.Placed) bool {
	s, t := stayOf(a.Time), stayOf(b.Time)
	sound := s.isSound() && t.isSound()
	span := max(s.last(), t.last()) - min(s.start(), t.start()) + 1
	slots := span - bits.OnesCount(s.slots) - bits.OnesCount(t.slots) // between them
	common := s.slots&t.slots != 0
	switch u.Kind {
	case api.RuleApart:
		return s.meets(t) && common
	case api.RuleSameDay:
		return s.weeks&t.weeks != 0 && s.day != t.day
	case api.RuleOtherDay:
		return s.meets(t)
	case api.RuleSameRoom:
		return inRoom(r, a) && inRoom(r, b) && a.Room != b.Room
	case api.RuleSameStart:
		return sound && s.start() != t.start()
	case api.RuleBefore:
		return sound && s.last() >= t.start()
	case api.RuleGap:
		return s.meets(t) && (common || slots < u.N)
	case api.RuleSpan:
		return s.meets(t) && span > u.N
	case api.RuleTravel:
		if !s.meets(t) || common || !inRoom(r, a) || !inRoom(r, b) {
			return false
		}
		way, known := shortest(r.Travel, r.Rooms[a.Room].Building, r.Rooms[b.Room].Building, nil)
		return known && slots < way
	}
	return false
}

// harmed returns whether a rule is violated by a class of its selection.
func harmed(r api.Registry, u api.Rule, a api.Placed) bool {
	for _, x := range u.Times {
		if s, t := stayOf(a.Time), stayOf(x); s.meets(t) && s.slots&t.slots != 0 {
			return true
		}
	}
	return u.Kind == api.RuleRooms && inRoom(r, a) && !slices.Contains(u.Rooms, r.Rooms[a.Room].Code)
}

func inRoom(r api.Registry, a api.Placed) bool {
	for i := range r.Rooms {
		if a.Room == i {
			return true
		}
	}
	return false
}

// shortest returns the length of the shortest way that does not go over the buildings where one was already.
func shortest(x api.Travel, from, to string, been []string) (int, bool) {
	if from == to {
		return 0, true
	}
	least, found := 0, false
	for k, over := range x.Buildings {
		i := slices.Index(x.Buildings, from)
		if i < 0 || x.Slots[i][k] < 0 || slices.Contains(been, over) {
			continue
		}
		if rest, ok := shortest(x, over, to, append(been, from)); ok && (!found || x.Slots[i][k]+rest < least) {
			least, found = x.Slots[i][k]+rest, true
		}
	}
	return least, found
}

// crowd returns the violations of RuleMost by the classes of a set.
func crowd(u api.Rule, set int, p []api.Placed) int {
	held := map[[2]int]int{} // how many classes there are in a week and on a day
	for i, a := range p {
		s := stayOf(a.Time)
		for weeks := s.weeks; weeks != 0 && set>>i&1 == 1; weeks &= weeks - 1 {
			held[[2]int{bits.TrailingZeros(weeks), s.day}]++
		}
	}
	n := 0
	for _, classes := range held {
		n += max(classes-u.N, 0)
	}
	return n
}

// checkReading checks all violations of a placement against the second reading. The selections of the rule mean the classes of the sets.
func checkReading(t *testing.T, r api.Registry, u api.Rule, first, second int, p []api.Placed) {
	t.Helper()
	sum := 0
	for i := range p {
		n := 0
		if first>>i&1 == 1 && harmed(r, u, p[i]) {
			n++
		}
		checkAlone(t, r, u, i, p[i], n, api.OK)
		sum += n
		for k := range i {
			n := 0
			if first>>i&1 == 1 && second>>k&1 == 1 && parts(r, u, p[i], p[k]) {
				n++
			}
			if u.Kind == api.RuleBefore && first>>k&1 == 1 && second>>i&1 == 1 && parts(r, u, p[k], p[i]) {
				n++
			}
			checkTogether(t, r, u, i, k, p[i], p[k], n, api.OK)
			checkTogether(t, r, u, k, i, p[k], p[i], n, api.OK)
			sum += n
		}
	}
	if u.Kind == api.RuleMost {
		sum = crowd(u, first, p)
	}
	checkViolations(t, r, u, p, sum, api.OK)
}

// anyRule returns a rule of a kind for the classes of two sets, the second of which is the first one unless the rule has two.
func anyRule(random *rand.Rand, kind int) (u api.Rule, first, second int) {
	u = rule(kind)
	u.Weight, u.Line = random.IntN(3), random.IntN(3)
	first = random.IntN(1<<classCount) | random.IntN(1<<classCount)
	second = first
	u.First = these(first)
	switch kind {
	case api.RuleBefore:
		second = random.IntN(1<<classCount) | random.IntN(1<<classCount)
		u.Second = these(second)
	case api.RuleMost, api.RuleGap, api.RuleSpan:
		u.N = random.IntN(7)
	case api.RuleAvoid:
		u.Times = nil
		for range 1 + random.IntN(3) {
			u.Times = append(u.Times, api.Time{Weeks: 1 + random.IntN(1023), Day: random.IntN(2), Start: random.IntN(4), Length: 1 + random.IntN(3)})
		}
	case api.RuleRooms:
		u.Rooms = []string{"R1", "R2", "R3", "R4", "R5", "R6", "R7"}[random.IntN(6):]
		u.Rooms = u.Rooms[:1+random.IntN(len(u.Rooms))]
	}
	return u, first, second
}

// anyPlacement returns a placement in which times often meet, and are not all sound.
func anyPlacement(random *rand.Rand) []api.Placed {
	var p []api.Placed
	odd := unsound()
	for range classCount {
		a := at(1+random.IntN(15), random.IntN(2), random.IntN(7), 1+random.IntN(3), random.IntN(9)-1)
		switch random.IntN(12) {
		case 0:
			a.Time = odd[random.IntN(len(odd))].Time
		case 1:
			a.Time = api.Time{Weeks: 1 + random.IntN(1<<20-1), Day: random.IntN(7), Start: random.IntN(12), Length: 1 + random.IntN(12)}
		}
		p = append(p, a)
	}
	return p
}

// P16.2, P16.3 and the consequences, another reading: times as sets of weeks and slots, for any rules and placements.
func TestReading(t *testing.T) {
	random := rand.New(rand.NewPCG(16, 1))
	r := campus()
	for range 400 {
		for _, kind := range kinds() {
			u, first, second := anyRule(random, kind)
			checkReading(t, r, u, first, second, anyPlacement(random))
		}
	}
}

// P16.3, another reading: all places of two short classes in two weeks and on two days.
func TestReadingShort(t *testing.T) {
	var places []api.Placed
	for weeks := 1; weeks < 4; weeks++ {
		for day := range 2 {
			for start := range 4 {
				for length := 1; length < 4; length++ {
					places = append(places, at(weeks, day, start, length, len(places)%8))
				}
			}
		}
	}
	r := campus()
	r.Classes = r.Classes[:2]
	const both = 3
	for i, a := range places {
		for k, b := range places[:i+1] {
			for _, kind := range kinds() {
				u := rule(kind)
				if u.N > 0 {
					u.N = (i + k) % 6
				}
				checkReading(t, r, u, both, both, []api.Placed{a, b})
			}
		}
	}
}

// The consequences: exchanging the names of rooms that are alike matters to RuleRooms only.
func TestAlike(t *testing.T) {
	random := rand.New(rand.NewPCG(16, 2))
	r, other := campus(), campus()
	other.Rooms[0].Code, other.Rooms[6].Code = r.Rooms[6].Code, r.Rooms[0].Code
	for range 400 {
		for _, kind := range kinds() {
			u, _, _ := anyRule(random, kind)
			p := anyPlacement(random)
			want, _ := Violations(r, u, p)
			if kind != api.RuleRooms {
				checkViolations(t, other, u, p, want, api.OK)
			}
		}
	}
	u := rule(api.RuleRooms)
	u.Rooms = []string{"R1"}
	p := []api.Placed{at(1, 0, 0, 1, 0), {}, {}, {}, {}, {}}
	for i := range p {
		p[i].Room = 0
	}
	checkViolations(t, r, u, p, 0, api.OK)
	checkViolations(t, other, u, p, classCount, api.OK)
}
