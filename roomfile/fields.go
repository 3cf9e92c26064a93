package roomfile

import (
	"strconv"

	"timetable/api"
	"timetable/codelists"
	"timetable/entries"
	"timetable/numerals"
	"timetable/timelists"
)

// The fields of a record, in their order.
const (
	fieldCode = iota
	fieldBuilding
	fieldSeats
	fieldFeatures
	fieldClosed
	fieldCount
)

const maxDigits = 4 // of a number of seats

// readField reads field i of a room.
func readField(r *api.Room, i int, s string, g api.Grid, weeks int) (e api.Errno) {
	switch i {
	case fieldCode:
		r.Code, e = entries.ReadCode(s)
	case fieldBuilding:
		r.Building, e = entries.ReadCode(s)
	case fieldSeats:
		r.Seats, e = readSeats(s)
	case fieldFeatures:
		r.Features, e = codelists.Read(s)
	case fieldClosed:
		r.Closed, e = timelists.Read(s, g, weeks)
	}
	return e
}

func readSeats(s string) (int, api.Errno) {
	n, ok := numerals.Read(s, maxDigits)
	if !ok {
		return 0, api.ErrForm
	}
	return n, api.OK
}

// writeFields returns the fields of a valid room.
func writeFields(r api.Room, g api.Grid, weeks int) []string {
	return []string{
		fieldCode:     r.Code,
		fieldBuilding: r.Building,
		fieldSeats:    strconv.Itoa(r.Seats),
		fieldFeatures: codelists.Write(r.Features),
		fieldClosed:   timelists.Write(r.Closed, g, weeks),
	}
}
