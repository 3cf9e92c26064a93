package rules

import (
	"slices"
	"testing"

	"timetable/api"
)

const none = -1 // the room of a class that has none

// checkPair checks the violations of a rule for all classes by two of them, which stand for each other.
func checkPair(t *testing.T, u api.Rule, a, b api.Placed, want int) {
	t.Helper()
	r := campus()
	checkTogether(t, r, u, 1, 4, a, b, want, api.OK)
	checkTogether(t, r, u, 4, 1, a, b, want, api.OK)
	checkTogether(t, r, u, 0, 5, b, a, want, api.OK)
	r.Classes = r.Classes[:2]
	checkViolations(t, r, u, []api.Placed{a, b}, want, api.OK)
	checkViolations(t, r, u, []api.Placed{b, a}, want, api.OK)
}

// pairs are two places with their violations.
type pairs []struct {
	a, b api.Placed
	want int
}

func checkPairs(t *testing.T, u api.Rule, l pairs) {
	t.Helper()
	for _, x := range l {
		checkPair(t, u, x.a, x.b, x.want)
	}
}

// checkUnsound checks that classes whose times are not sound do not violate a rule.
func checkUnsound(t *testing.T, u api.Rule) {
	t.Helper()
	for _, a := range unsound() {
		for _, b := range []api.Placed{a, at(1, 0, 0, 1, 1), at(1<<20-1, 0, 0, 24, none), at(1, 6, 23, 1, 2)} {
			checkPair(t, u, a, b, 0)
		}
	}
}

// P16.2, P16.3: RuleApart.
func TestApart(t *testing.T) {
	checkPairs(t, rule(api.RuleApart), pairs{
		{at(1, 0, 2, 2, 0), at(1, 0, 2, 2, 0), 1},
		{at(1, 0, 2, 2, 0), at(1, 0, 3, 2, 1), 1},
		{at(1, 0, 2, 2, none), at(3, 0, 0, 24, none), 1},
		{at(1<<19, 6, 23, 1, 0), at(1<<20-1, 6, 22, 2, 0), 1},
		{at(1, 0, 2, 2, 0), at(1, 0, 4, 2, 0), 0},
		{at(1, 0, 2, 2, 0), at(1, 1, 2, 2, 0), 0},
		{at(5, 0, 2, 2, 0), at(10, 0, 2, 2, 0), 0},
	})
	checkUnsound(t, rule(api.RuleApart))
}

// P16.2, P16.3: RuleSameDay.
func TestSameDay(t *testing.T) {
	checkPairs(t, rule(api.RuleSameDay), pairs{
		{at(1, 0, 2, 2, 0), at(1, 0, 2, 2, 0), 0},
		{at(1, 0, 2, 2, 0), at(1, 0, 8, 2, 0), 0},
		{at(1, 0, 2, 2, 0), at(1, 1, 2, 2, 0), 1},
		{at(1, 0, 2, 2, none), at(3, 6, 9, 1, 7), 1},
		{at(1<<19, 3, 2, 2, 0), at(1<<20-1, 2, 2, 2, 0), 1},
		{at(5, 0, 2, 2, 0), at(10, 1, 2, 2, 0), 0},
		{at(5, 0, 2, 2, 0), at(10, 0, 2, 2, 0), 0},
	})
	checkUnsound(t, rule(api.RuleSameDay))
}

// P16.2, P16.3: RuleOtherDay.
func TestOtherDay(t *testing.T) {
	checkPairs(t, rule(api.RuleOtherDay), pairs{
		{at(1, 0, 2, 2, 0), at(1, 0, 2, 2, 0), 1},
		{at(1, 0, 2, 2, 0), at(1, 0, 4, 2, none), 1},
		{at(1, 6, 0, 1, 0), at(3, 6, 23, 1, 1), 1},
		{at(1, 0, 2, 2, 0), at(1, 1, 2, 2, 0), 0},
		{at(5, 0, 2, 2, 0), at(10, 0, 2, 2, 0), 0},
	})
	checkUnsound(t, rule(api.RuleOtherDay))
}

// P16.2, P16.3: RuleSameRoom, for which times do not matter, even if they are not sound.
func TestSameRoom(t *testing.T) {
	times := append(unsound(), at(1, 0, 0, 1, 0), at(2, 0, 0, 1, 0), at(1, 3, 7, 9, 0))
	in := func(room int) api.Placed {
		x := times[0]
		times = append(times[1:], x)
		x.Room = room
		return x
	}
	u := rule(api.RuleSameRoom)
	for i := range 7 {
		for k := range 7 {
			want := 1
			if i == k {
				want = 0
			}
			checkPair(t, u, in(i), in(k), want)
		}
		for _, room := range append(extremes(), none, -2, 7, 8, 16) {
			checkPair(t, u, in(i), in(room), 0)
			checkPair(t, u, in(room), in(none), 0)
		}
	}
	checkPairs(t, u, pairs{{at(1, 0, 0, 1, 0), at(1, 0, 0, 1, 1), 1}, {at(1, 0, 0, 1, 6), at(2, 1, 9, 1, 0), 1}})
}

// P16.2, P16.3: RuleSameStart, for which weeks do not matter.
func TestSameStart(t *testing.T) {
	checkPairs(t, rule(api.RuleSameStart), pairs{
		{at(1, 0, 2, 2, 0), at(1, 0, 2, 2, 0), 0},
		{at(1, 0, 2, 2, none), at(1, 0, 2, 5, 1), 0},
		{at(1, 0, 2, 2, 0), at(2, 0, 2, 2, 0), 0},
		{at(1, 0, 2, 2, 0), at(1, 0, 3, 2, 0), 1},
		{at(1, 0, 2, 2, 0), at(1, 1, 2, 2, 0), 1},
		{at(5, 0, 2, 2, 0), at(10, 0, 3, 1, 0), 1},
		{at(5, 6, 0, 24, 0), at(10, 0, 0, 24, 0), 1},
	})
	checkUnsound(t, rule(api.RuleSameStart))
}

// P16.2, P16.3: RuleBefore, where each class of two comes before the other, so that at least one of them is too late.
func TestBeforeBoth(t *testing.T) {
	checkPairs(t, rule(api.RuleBefore), pairs{
		{at(1, 0, 2, 2, 0), at(1, 0, 4, 2, 0), 1},
		{at(1, 0, 2, 2, 0), at(1, 1, 0, 1, 0), 1},
		{at(5, 0, 2, 2, 0), at(10, 1, 2, 2, 0), 1},
		{at(1, 0, 2, 2, 0), at(1, 0, 2, 2, 0), 2},
		{at(1, 0, 2, 2, 0), at(1, 0, 3, 2, none), 2},
		{at(5, 0, 0, 9, 0), at(10, 0, 3, 2, 0), 2},
	})
	checkUnsound(t, rule(api.RuleBefore))
}

// P16.2, P16.3: RuleBefore, with classes of one selection only, of both, and of none.
func TestBefore(t *testing.T) {
	early, late, same := at(1, 0, 2, 2, 0), at(2, 1, 0, 1, none), at(4, 0, 3, 3, 1)
	for first := range 4 {
		for second := range 4 {
			u := rule(api.RuleBefore)
			u.First, u.Second = these(first), these(second)
			forward, backward := 0, 0 // whether K0 is to be before K1, and K1 before K0
			if first&1 == 1 && second&2 == 2 {
				forward = 1
			}
			if first&2 == 2 && second&1 == 1 {
				backward = 1
			}
			r := campus()
			checkTogether(t, r, u, 0, 1, early, late, backward, api.OK)
			checkTogether(t, r, u, 1, 0, early, late, forward, api.OK)
			checkTogether(t, r, u, 0, 1, late, early, forward, api.OK)
			checkTogether(t, r, u, 1, 0, late, early, backward, api.OK)
			checkTogether(t, r, u, 0, 1, early, same, forward+backward, api.OK)
			r.Classes = r.Classes[:2]
			checkViolations(t, r, u, []api.Placed{early, late}, backward, api.OK)
			checkViolations(t, r, u, []api.Placed{late, early}, forward, api.OK)
			checkViolations(t, r, u, []api.Placed{same, early}, forward+backward, api.OK)
			checkViolations(t, r, u, []api.Placed{same, {}}, 0, api.OK)
		}
	}
}

// P16.2, P16.3: RuleGap, with all numbers and all places of a short class behind a long one.
func TestGap(t *testing.T) {
	for n := range 25 {
		u := numbered(api.RuleGap, n)
		for start := 6; start < 24; start++ {
			want := 0
			if start-7 < n {
				want = 1
			}
			checkPair(t, u, at(1, 2, 2, 5, 0), at(3, 2, start, 1, none), want)
		}
	}
	checkPairs(t, numbered(api.RuleGap, 24), pairs{
		{at(1, 0, 0, 1, 0), at(1, 0, 23, 1, 0), 1},
		{at(1, 0, 2, 2, 0), at(1, 1, 4, 2, 0), 0},
		{at(5, 0, 2, 2, 0), at(10, 0, 4, 2, 0), 0},
	})
	checkPairs(t, numbered(api.RuleGap, 0), pairs{{at(1, 0, 2, 4, 0), at(1, 0, 3, 1, 0), 1}, {at(1, 0, 2, 4, 0), at(1, 0, 6, 1, 0), 0}})
	checkUnsound(t, numbered(api.RuleGap, 24))
}

// P16.2, P16.3: RuleSpan, with all numbers and all places of a short class before, in and behind a long one.
func TestSpan(t *testing.T) {
	for n := range 25 {
		u := numbered(api.RuleSpan, n)
		for start := range 24 {
			want := 0
			if max(start+1, 12)-min(start, 7) > n {
				want = 1
			}
			checkPair(t, u, at(1, 2, 7, 5, 0), at(3, 2, start, 1, none), want)
		}
	}
	checkPairs(t, numbered(api.RuleSpan, 0), pairs{
		{at(1, 0, 2, 2, 0), at(1, 0, 2, 2, 0), 1},
		{at(1, 0, 2, 2, 0), at(1, 1, 2, 2, 0), 0},
		{at(5, 0, 2, 2, 0), at(10, 0, 2, 2, 0), 0},
	})
	checkUnsound(t, numbered(api.RuleSpan, 0))
}

// P16.2, P16.3: RuleTravel, with all slots between and all rooms.
func TestTravel(t *testing.T) {
	ways := [][]int{ // of the rooms, also over other buildings
		{0, 1, 3, 24, 0, 0, 0},
		{1, 0, 2, 24, 0, 0, 1},
		{3, 2, 0, 23, 0, 0, 3},
		{24, 24, 23, 0, 0, 0, 24},
		{0, 0, 0, 0, 0, 0, 0},
		{0, 0, 0, 0, 0, 0, 0},
		{0, 1, 3, 24, 0, 0, 0},
	}
	u := rule(api.RuleTravel)
	for i, row := range ways {
		for k, way := range row {
			for _, slots := range []int{0, 1, 2, 3, 4, 22} {
				want := 0
				if slots < way {
					want = 1
				}
				checkPair(t, u, at(1, 0, 0, 1, i), at(3, 0, 1+slots, 1, k), want)
			}
			checkPair(t, u, at(1, 0, 0, 2, i), at(1, 0, 1, 2, k), 0)
			checkPair(t, u, at(1, 0, 0, 1, i), at(1, 1, 1, 1, k), 0)
			checkPair(t, u, at(1, 0, 0, 1, i), at(2, 0, 1, 1, k), 0)
		}
		for _, room := range append(extremes(), none, -2, 7, 8, 16) {
			checkPair(t, u, at(1, 0, 0, 1, i), at(1, 0, 1, 1, room), 0)
			checkPair(t, u, at(1, 0, 0, 1, room), at(1, 0, 1, 1, none), 0)
		}
	}
	checkUnsound(t, u)
}

// checkSingle checks the violations of a rule for all classes by one of them.
func checkSingle(t *testing.T, r api.Registry, u api.Rule, a api.Placed, want int) {
	t.Helper()
	for i := range r.Classes {
		checkAlone(t, r, u, i, a, want, api.OK)
	}
	r.Classes = r.Classes[:1]
	checkViolations(t, r, u, []api.Placed{a}, want, api.OK)
	r.Classes = campus().Classes[:3]
	checkViolations(t, r, u, []api.Placed{a, a, a}, 3*want, api.OK)
}

// P16.2, P16.3: RuleAvoid.
func TestAvoid(t *testing.T) {
	u := rule(api.RuleAvoid) // Monday, slots 4 and 5, and in the first week Wednesday up to slot 8
	for _, x := range []struct {
		a    api.Placed
		want int
	}{
		{at(1, 0, 4, 2, 0), 1},
		{at(1, 0, 5, 1, none), 1},
		{at(512, 0, 0, 24, 99), 1},
		{at(1, 0, 3, 1, 0), 0},
		{at(1, 0, 6, 3, 0), 0},
		{at(1, 1, 4, 2, 0), 0},
		{at(1024, 0, 4, 2, 0), 0},
		{at(1<<20-1, 0, 4, 2, 0), 1},
		{at(1, 2, 8, 2, 0), 1},
		{at(3, 2, 0, 1, 0), 1},
		{at(2, 2, 0, 1, 0), 0},
		{at(1, 2, 9, 1, 0), 0},
	} {
		checkSingle(t, campus(), u, x.a, x.want)
	}
	for _, a := range unsound() {
		checkSingle(t, campus(), u, a, 0)
	}
	u.Times = slices.Repeat([]api.Time{{Weeks: 1, Day: 4, Start: 9, Length: 1}}, 24)
	checkSingle(t, campus(), u, at(1, 4, 9, 1, 0), 1) // each class counts once
	u.Times[23].Start = 3
	checkSingle(t, campus(), u, at(1, 4, 3, 1, 0), 1)
	checkSingle(t, campus(), u, at(1, 4, 8, 1, 0), 0)
}

// P16.2, P16.3: RuleRooms, for which times do not matter.
func TestRooms(t *testing.T) {
	codes := []string{"R1", "R2", "R3", "R4", "R5", "R6", "R7"}
	times := append(unsound(), at(1, 0, 0, 1, 0))
	for set := 1; set < 1<<len(codes); set += 5 {
		u := rule(api.RuleRooms)
		u.Rooms = nil
		for i, code := range codes {
			if set>>i&1 == 1 {
				u.Rooms = append([]string{code}, u.Rooms...)
			}
		}
		for i := range codes {
			a := times[(set+i)%len(times)]
			a.Room = i
			checkSingle(t, campus(), u, a, 1-set>>i&1)
		}
		for _, room := range append(extremes(), none, -2, 7, 8, 16) {
			checkSingle(t, campus(), u, at(1, 0, 0, 1, room), 0)
		}
	}
}

// P16.2, P16.3: RuleMost counts classes on all days of all weeks, also those that the term and the grid do not have.
func TestMost(t *testing.T) {
	p := []api.Placed{at(3, 0, 0, 1, 0), at(1<<20-1, 0, 0, 2, 0), at(3, 0, 9, 1, none), at(6, 0, 20, 4, 99), at(1<<19, 6, 0, 1, 0), {}}
	for n, want := range []int{3 + 4 + 2 + 17 + 1, 2 + 3 + 1, 1 + 2, 1, 0} { // the days of the first three weeks hold 3, 4 and 2 classes
		checkViolations(t, campus(), numbered(api.RuleMost, n), p, want, api.OK)
	}
	for n := range 25 {
		u := numbered(api.RuleMost, n)
		checkViolations(t, campus(), u, slices.Repeat([]api.Placed{at(1<<20-1, 6, 0, 24, 0)}, classCount), 20*max(classCount-n, 0), api.OK)
		for _, a := range unsound() {
			checkViolations(t, campus(), u, slices.Repeat([]api.Placed{a}, classCount), 0, api.OK)
		}
	}
	for set := range 1 << classCount {
		u := numbered(api.RuleMost, 2)
		u.First = these(set)
		same := 0
		for i := range classCount {
			same += set >> i & 1
		}
		checkViolations(t, campus(), u, slices.Repeat([]api.Placed{at(5, 3, 0, 1, 0)}, classCount), 2*max(same-2, 0), api.OK)
	}
}

// P16.3: what pairs and single classes have nothing to do with.
func TestNothing(t *testing.T) {
	r := campus()
	places := append(unsound(), at(1, 0, 4, 2, 0), at(1, 0, 4, 2, 1), at(1, 2, 0, 1, 1), at(1, 0, 6, 1, 3))
	for _, kind := range kinds() {
		isSingle := kind == api.RuleAvoid || kind == api.RuleRooms
		for i, a := range places {
			if !isSingle {
				checkAlone(t, r, rule(kind), i%classCount, a, 0, api.OK)
			}
			if isSingle || kind == api.RuleMost {
				checkTogether(t, r, rule(kind), 0, 1, a, a, 0, api.OK)
				checkTogether(t, r, rule(kind), 5, i%5, a, places[len(places)-1-i%4], 0, api.OK)
			}
		}
	}
}

// The examples of the chapter.
func TestExamples(t *testing.T) {
	r := campus()
	r.Classes = r.Classes[:3]
	checkViolations(t, r, rule(api.RuleApart), slices.Repeat([]api.Placed{at(1, 0, 0, 1, 0)}, 3), 3, api.OK)
	r.Classes = campus().Classes[:4]
	checkViolations(t, r, numbered(api.RuleMost, 2), slices.Repeat([]api.Placed{at(3, 0, 0, 1, 0)}, 4), 4, api.OK)
	r.Classes = campus().Classes[:2]
	for _, kind := range []int{api.RuleApart, api.RuleOtherDay, api.RuleGap, api.RuleSpan, api.RuleTravel} {
		checkViolations(t, r, rule(kind), []api.Placed{at(0b0101, 0, 0, 1, 0), at(0b1010, 0, 0, 1, 1)}, 0, api.OK)
	}
}
