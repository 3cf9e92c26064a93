package requests

import (
	"cmp"
	"slices"

	"timetable/api"
	"timetable/codes"
)

// Students returns the students, in natural order.
func Students(l []api.Request) []string {
	known := make(map[string]bool)
	for _, r := range l {
		known[r.Student] = true
	}
	var students []string
	for student := range known {
		students = append(students, student)
	}
	slices.SortFunc(students, codes.Compare)
	return students
}

// Wanted returns the requests of a student by their priority.
func Wanted(l []api.Request, student string) []api.Request {
	var wanted []api.Request
	for _, r := range l {
		if r.Student == student {
			r.Instead = slices.Clone(r.Instead)
			wanted = append(wanted, r)
		}
	}
	slices.SortStableFunc(wanted, byPriority)
	return wanted
}

func byPriority(a, b api.Request) int { return cmp.Compare(a.Priority, b.Priority) }
