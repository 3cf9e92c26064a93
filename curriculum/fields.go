package curriculum

import (
	"timetable/api"
	"timetable/codelists"
	"timetable/entries"
)

// The fields of a record, in their order.
const (
	fieldCode = iota
	fieldCourses
	fieldCount
)

// readField reads field i of a curriculum.
func readField(c *api.Curriculum, i int, s string) (e api.Errno) {
	switch i {
	case fieldCode:
		c.Code, e = entries.ReadCode(s)
	case fieldCourses:
		c.Courses, e = readCourses(s)
	}
	return e
}

func readCourses(s string) ([]string, api.Errno) {
	l, e := codelists.ReadFew(s)
	switch {
	case e != api.OK:
		return nil, e
	case len(l) == 0:
		return nil, api.ErrEmpty
	}
	return l, api.OK
}

// writeFields returns the fields of a valid curriculum.
func writeFields(c api.Curriculum) []string {
	return []string{fieldCode: c.Code, fieldCourses: codelists.Write(c.Courses)}
}
