package roomfile

import (
	"slices"
	"strconv"
	"strings"

	"timetable/api"
	"timetable/codes"
	"timetable/numerals"
	"timetable/timegrid"
)

// The fields of a record, in their order.
const (
	fieldCode = iota
	fieldBuilding
	fieldSeats
	fieldFeatures
	fieldClosed
	fieldCount
)

const (
	separator = ";" // between times
	maxDigits = 4   // of a number of seats
)

// readField reads field i of a room.
func readField(r *api.Room, i int, s string, g api.Grid, weeks int) (e api.Errno) {
	switch i {
	case fieldCode:
		r.Code, e = readCode(s)
	case fieldBuilding:
		r.Building, e = readCode(s)
	case fieldSeats:
		r.Seats, e = readSeats(s)
	case fieldFeatures:
		r.Features, e = readFeatures(s)
	case fieldClosed:
		r.Closed, e = readTimes(s, g, weeks)
	}
	return e
}

func readCode(s string) (string, api.Errno) {
	if !codes.Valid(s) {
		return "", api.ErrCode
	}
	return s, api.OK
}

func readSeats(s string) (int, api.Errno) {
	n, ok := numerals.Read(s, maxDigits)
	if !ok {
		return 0, api.ErrForm
	}
	return n, api.OK
}

func readFeatures(s string) ([]string, api.Errno) {
	l, e := codes.List(s)
	switch {
	case e != api.OK:
		return nil, e
	case len(l) > api.MaxFeatures:
		return nil, api.ErrSize
	}
	slices.Sort(l)
	return l, api.OK
}

func readTimes(s string, g api.Grid, weeks int) ([]api.Time, api.Errno) {
	if s == "" {
		return nil, api.OK
	}
	var l []api.Time
	for part := range strings.SplitSeq(s, separator) {
		t, e := timegrid.Parse(g, weeks, part)
		if e != api.OK {
			return nil, e
		}
		l = append(l, t)
	}
	// Only now, because an error of any time comes first.
	if len(l) > api.MaxTimes {
		return nil, api.ErrSize
	}
	return l, api.OK
}

// writeFields returns the fields of a valid room.
func writeFields(r api.Room, g api.Grid, weeks int) []string {
	features, _ := codes.Join(r.Features) // there is no error, since the room is valid
	return []string{
		fieldCode:     r.Code,
		fieldBuilding: r.Building,
		fieldSeats:    strconv.Itoa(r.Seats),
		fieldFeatures: features,
		fieldClosed:   writeTimes(r.Closed, g, weeks),
	}
}

// writeTimes returns the text of times that fit.
func writeTimes(l []api.Time, g api.Grid, weeks int) string {
	var parts []string
	for _, t := range l {
		part, _ := timegrid.Format(g, weeks, t) // there is no error, since the time fits
		parts = append(parts, part)
	}
	return strings.Join(parts, separator)
}
