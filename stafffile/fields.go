package stafffile

import (
	"timetable/api"
	"timetable/entries"
	"timetable/timelists"
)

// The fields of a record, in their order.
const (
	fieldCode = iota
	fieldAway
	fieldCount
)

// readField reads field i of a lecturer.
func readField(x *api.Lecturer, i int, s string, g api.Grid, weeks int) (e api.Errno) {
	switch i {
	case fieldCode:
		x.Code, e = entries.ReadCode(s)
	case fieldAway:
		x.Away, e = timelists.Read(s, g, weeks)
	}
	return e
}

// writeFields returns the fields of a valid lecturer.
func writeFields(x api.Lecturer, g api.Grid, weeks int) []string {
	return []string{fieldCode: x.Code, fieldAway: timelists.Write(x.Away, g, weeks)}
}
