package registry

import (
	"timetable/api"
	"timetable/calendar"
	"timetable/coursefile"
	"timetable/curriculum"
	"timetable/requests"
	"timetable/roomfile"
	"timetable/stafffile"
	"timetable/timegrid"
	"timetable/travel"
)

// checksOf returns the checks of a registry in their order: of each file alone, and then of the codes by which one names what stands in another.
func checksOf(r api.Registry) []func() api.Errno {
	weeks := r.Term.Weeks
	return []func() api.Errno{
		func() api.Errno { return timegrid.Valid(r.Grid) },
		func() api.Errno { return calendar.Valid(r.Term) },
		func() api.Errno { return roomfile.Valid(r.Rooms, r.Grid, weeks) },
		func() api.Errno { return travel.Valid(r.Travel) },
		func() api.Errno { return stafffile.Valid(r.Staff, r.Grid, weeks) },
		func() api.Errno { return coursefile.Valid(r.Classes, r.Grid, weeks) },
		func() api.Errno { return curriculum.Valid(r.Curricula) },
		func() api.Errno { return requests.Valid(r.Requests) },
		func() api.Errno { return checkKnown(r.Classes, staffedBy(r.Staff)) },
		func() api.Errno { return checkKnown(r.Curricula, taughtIn(r.Classes)) },
		func() api.Errno { return checkKnown(r.Requests, offeredIn(r.Classes)) },
	}
}

// checkKnown returns an error if an entry names something that is not known.
func checkKnown[T any](l []T, isKnown func(entry T) bool) api.Errno {
	for _, entry := range l {
		if !isKnown(entry) {
			return api.ErrUnknown
		}
	}
	return api.OK
}
