package coursefile

import (
	"strconv"
	"strings"

	"timetable/api"
	"timetable/codelists"
	"timetable/entries"
	"timetable/numerals"
	"timetable/weekset"
)

// The fields of a record, in their order.
const (
	fieldCode = iota
	fieldCourse
	fieldPart
	fieldLength
	fieldPatterns
	fieldSeats
	fieldFeatures
	fieldStaff
	fieldStarts
	fieldCount
)

const (
	slash        = "/" // between sets of weeks
	lengthDigits = 2
	seatsDigits  = 4
)

// readField reads field i of a class, whose fields before it have been read.
func readField(c *api.Class, i int, s string, g api.Grid, weeks int) (e api.Errno) {
	switch i {
	case fieldCode:
		c.Code, e = entries.ReadCode(s)
	case fieldCourse:
		c.Course, e = entries.ReadCode(s)
	case fieldPart:
		c.Part, e = entries.ReadCode(s)
	case fieldLength:
		c.Length, e = readLength(s, g)
	case fieldPatterns:
		c.Patterns, e = readPatterns(s, weeks)
	case fieldSeats:
		c.Seats, e = readSeats(s)
	case fieldFeatures:
		c.Features, e = codelists.Read(s)
	case fieldStaff:
		c.Staff, e = codelists.Read(s)
	case fieldStarts:
		c.Starts, e = readStarts(s, c.Length, g)
	}
	return e
}

func readLength(s string, g api.Grid) (int, api.Errno) {
	n, ok := numerals.Read(s, lengthDigits)
	switch {
	case !ok:
		return 0, api.ErrForm
	case !isLength(n, g):
		return 0, api.ErrRange
	}
	return n, api.OK
}

func readPatterns(s string, weeks int) ([]int, api.Errno) {
	readPattern := func(part string) (int, api.Errno) { return weekset.Parse(part, weeks) }
	l, e := entries.ReadParts(s, slash, api.MaxPatterns, readPattern)
	switch {
	case e != api.OK:
		return nil, e
	case hasEqual(l):
		return nil, api.ErrDuplicate
	}
	return l, api.OK
}

func readSeats(s string) (int, api.Errno) {
	n, ok := numerals.ReadPadded(s, seatsDigits)
	if !ok {
		return 0, api.ErrForm
	}
	return n, api.OK
}

// writeFields returns the fields of a valid class.
func writeFields(c api.Class, g api.Grid, weeks int) []string {
	return []string{
		fieldCode:     c.Code,
		fieldCourse:   c.Course,
		fieldPart:     c.Part,
		fieldLength:   strconv.Itoa(c.Length),
		fieldPatterns: writePatterns(c.Patterns, weeks),
		fieldSeats:    strconv.Itoa(c.Seats),
		fieldFeatures: codelists.Write(c.Features),
		fieldStaff:    codelists.Write(c.Staff),
		fieldStarts:   writeStarts(c.Starts, g),
	}
}

func writePatterns(l []int, weeks int) string {
	var parts []string
	for _, set := range l {
		part, _ := weekset.Format(set, weeks) // there is no error, since the set is valid
		parts = append(parts, part)
	}
	return strings.Join(parts, slash)
}
