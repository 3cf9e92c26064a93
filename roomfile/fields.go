package roomfile

import (
	"slices"
	"strconv"

	"timetable/api"
	"timetable/codes"
	"timetable/entries"
	"timetable/numerals"
	"timetable/timelists"
)

// The fields of a record, in their order.
const (
	fieldCode = iota
	fieldBuilding
	fieldSeats
	fieldFeatures
	fieldClosed
	fieldCount
)

const maxDigits = 4 // of a number of seats

// readField reads field i of a room.
func readField(r *api.Room, i int, s string, g api.Grid, weeks int) (e api.Errno) {
	switch i {
	case fieldCode:
		r.Code, e = entries.ReadCode(s)
	case fieldBuilding:
		r.Building, e = entries.ReadCode(s)
	case fieldSeats:
		r.Seats, e = readSeats(s)
	case fieldFeatures:
		r.Features, e = readFeatures(s)
	case fieldClosed:
		r.Closed, e = timelists.Read(s, g, weeks)
	}
	return e
}

func readSeats(s string) (int, api.Errno) {
	n, ok := numerals.Read(s, maxDigits)
	if !ok {
		return 0, api.ErrForm
	}
	return n, api.OK
}

func readFeatures(s string) ([]string, api.Errno) {
	l, e := codes.List(s)
	switch {
	case e != api.OK:
		return nil, e
	case len(l) > api.MaxFeatures:
		return nil, api.ErrSize
	}
	slices.Sort(l)
	return l, api.OK
}

// writeFields returns the fields of a valid room.
func writeFields(r api.Room, g api.Grid, weeks int) []string {
	features, _ := codes.Join(r.Features) // there is no error, since the room is valid
	return []string{
		fieldCode:     r.Code,
		fieldBuilding: r.Building,
		fieldSeats:    strconv.Itoa(r.Seats),
		fieldFeatures: features,
		fieldClosed:   timelists.Write(r.Closed, g, weeks),
	}
}
