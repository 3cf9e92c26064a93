package requests

import (
	"slices"
	"strconv"

	"timetable/api"
	"timetable/codelists"
	"timetable/entries"
	"timetable/numerals"
)

// The fields of a record, in their order.
const (
	fieldStudent = iota
	fieldCourse
	fieldPriority
	fieldInstead
	fieldCount
)

const priorityDigits = 1

// readField reads field i of a request, whose fields before it have been read.
func readField(r *api.Request, i int, s string) (e api.Errno) {
	switch i {
	case fieldStudent:
		r.Student, e = entries.ReadCode(s)
	case fieldCourse:
		r.Course, e = entries.ReadCode(s)
	case fieldPriority:
		r.Priority, e = readPriority(s)
	case fieldInstead:
		r.Instead, e = readInstead(s, r.Course)
	}
	return e
}

func readPriority(s string) (int, api.Errno) {
	n, ok := numerals.Read(s, priorityDigits)
	if !ok {
		return 0, api.ErrForm
	}
	return n, api.OK
}

func readInstead(s, course string) ([]string, api.Errno) {
	l, e := codelists.ReadFew(s)
	switch {
	case e != api.OK:
		return nil, e
	case slices.Contains(l, course):
		return nil, api.ErrDuplicate
	}
	return l, api.OK
}

// writeFields returns the fields of a valid request.
func writeFields(r api.Request) []string {
	return []string{
		fieldStudent:  r.Student,
		fieldCourse:   r.Course,
		fieldPriority: strconv.Itoa(r.Priority),
		fieldInstead:  codelists.Write(r.Instead),
	}
}
