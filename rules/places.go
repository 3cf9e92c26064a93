package rules

import (
	"slices"

	"timetable/api"
	"timetable/timegrid"
	"timetable/travel"
)

// isBrokenBy reports whether two classes in these places violate the rule.
func (d demand) isBrokenBy(a, b api.Placed) bool {
	s, t := a.Time, b.Time
	slots, meet := timegrid.Between(s, t)
	sound := timegrid.Sound(s) && timegrid.Sound(t)
	switch d.rule.Kind {
	case api.RuleApart:
		return timegrid.Overlap(s, t)
	case api.RuleSameDay:
		return sound && s.Weeks&t.Weeks != 0 && s.Day != t.Day
	case api.RuleOtherDay:
		return meet
	case api.RuleSameRoom:
		return d.haveRooms(a, b) && a.Room != b.Room
	case api.RuleSameStart:
		return sound && (s.Day != t.Day || s.Start != t.Start)
	case api.RuleBefore:
		return sound && !timegrid.Before(s, t)
	case api.RuleGap:
		return meet && slots < d.rule.N
	case api.RuleSpan:
		return meet && spanOf(s, t) > d.rule.N
	case api.RuleTravel:
		return meet && slots >= 0 && d.haveRooms(a, b) && slots < d.way(a, b)
	}
	return false
}

// isWrong reports whether a class in this place violates the rule by itself.
func (d demand) isWrong(a api.Placed) bool {
	switch d.rule.Kind {
	case api.RuleAvoid:
		overlaps := func(t api.Time) bool { return timegrid.Overlap(a.Time, t) }
		return slices.ContainsFunc(d.rule.Times, overlaps)
	case api.RuleRooms:
		return d.hasRoom(a) && !slices.Contains(d.rule.Rooms, d.rooms[a.Room].Code)
	}
	return false
}

// excess returns how many classes there are beyond the number of the rule, on all days of all weeks.
func (d demand) excess(p []api.Placed) int {
	n := 0
	for week := range api.MaxWeeks {
		for day := range api.MaxDays {
			n += max(d.classesOn(p, week, day)-d.rule.N, 0)
		}
	}
	return n
}

// classesOn returns how many classes there are on a day of a week (from 0 on).
func (d demand) classesOn(p []api.Placed, week, day int) int {
	n := 0
	for _, i := range d.first {
		t := p[i].Time
		n += count(timegrid.Sound(t) && t.Weeks>>week&1 == 1 && t.Day == day)
	}
	return n
}

func (d demand) hasRoom(a api.Placed) bool { return 0 <= a.Room && a.Room < len(d.rooms) }

func (d demand) haveRooms(a, b api.Placed) bool { return d.hasRoom(a) && d.hasRoom(b) }

// way returns how many slots the way between two rooms takes.
func (d demand) way(a, b api.Placed) int {
	return travel.Between(d.ways, d.rooms[a.Room].Building, d.rooms[b.Room].Building)
}

// spanOf returns how many slots there are from the earlier beginning to the later end.
func spanOf(a, b api.Time) int {
	return max(a.Start+a.Length, b.Start+b.Length) - min(a.Start, b.Start)
}
