package timegrid

import "timetable/api"

// Overlap reports whether two times overlap.
func Overlap(a, b api.Time) bool {
	n, ok := Between(a, b)
	return ok && n < 0
}

// Between returns how many slots are between two times.
func Between(a, b api.Time) (int, bool) {
	if !Sound(a) || !Sound(b) || a.Weeks&b.Weeks == 0 || a.Day != b.Day {
		return 0, false
	}
	// The later beginning comes before the earlier end exactly if there is a common slot.
	return max(max(a.Start, b.Start)-min(endOf(a), endOf(b)), -1), true
}

// Before reports whether a time ends, in the week, before another one begins.
func Before(a, b api.Time) bool {
	return Sound(a) && Sound(b) && (a.Day < b.Day || a.Day == b.Day && endOf(a) <= b.Start)
}
