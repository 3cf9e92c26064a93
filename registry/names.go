package registry

import (
	"slices"

	"timetable/api"
)

// staffedBy returns a function that reports whether all who teach a class are lecturers of a list.
func staffedBy(l []api.Lecturer) func(c api.Class) bool {
	isStranger := func(code string) bool {
		return !slices.ContainsFunc(l, func(x api.Lecturer) bool { return x.Code == code })
	}
	return func(c api.Class) bool { return !slices.ContainsFunc(c.Staff, isStranger) }
}

// taughtIn returns a function that reports whether all courses of a curriculum have a class.
func taughtIn(l []api.Class) func(c api.Curriculum) bool {
	return func(c api.Curriculum) bool { return haveClasses(l, c.Courses...) }
}

// offeredIn returns a function that reports whether the course of a request has a class, and all that would do instead.
func offeredIn(l []api.Class) func(r api.Request) bool {
	return func(r api.Request) bool { return haveClasses(l, r.Course) && haveClasses(l, r.Instead...) }
}

// haveClasses reports whether each of the courses has a class.
func haveClasses(l []api.Class, courses ...string) bool {
	for _, course := range courses {
		if !slices.ContainsFunc(l, func(c api.Class) bool { return c.Course == course }) {
			return false
		}
	}
	return true
}
