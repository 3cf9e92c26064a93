package selection

import (
	"slices"

	"timetable/api"
	"timetable/registry"
)

// isKnown reports whether all names in a selection are known.
func isKnown(r api.Registry, s api.Select) bool {
	switch s.Kind {
	case api.SelectCurriculum:
		return registry.Index(r, api.FileCurricula, s.Name) >= 0
	case api.SelectStaff:
		return registry.Index(r, api.FileStaff, s.Name) >= 0
	case api.SelectFeature:
		if slices.ContainsFunc(r.Rooms, func(room api.Room) bool { return slices.Contains(room.Features, s.Name) }) {
			return true
		}
		fallthrough // like the names of the other kinds, it may be that of a class
	case api.SelectClass, api.SelectCourse, api.SelectPart:
		return slices.ContainsFunc(r.Classes, func(c api.Class) bool { return isOf(r, c, s) })
	}
	return !slices.ContainsFunc(s.Kids, func(kid api.Select) bool { return !isKnown(r, kid) })
}

// isOf reports whether a class is one of those of a selection, the names in which are known.
func isOf(r api.Registry, c api.Class, s api.Select) bool {
	has := func(kid api.Select) bool { return isOf(r, c, kid) }
	lacks := func(kid api.Select) bool { return !has(kid) }
	switch s.Kind {
	case api.SelectClass:
		return c.Code == s.Name
	case api.SelectCourse:
		return c.Course == s.Name
	case api.SelectPart:
		return c.Part == s.Name
	case api.SelectCurriculum:
		curriculum := r.Curricula[registry.Index(r, api.FileCurricula, s.Name)]
		return slices.Contains(curriculum.Courses, c.Course)
	case api.SelectStaff:
		return slices.Contains(c.Staff, s.Name)
	case api.SelectFeature:
		return slices.Contains(c.Features, s.Name)
	case api.SelectAnd:
		return !slices.ContainsFunc(s.Kids, lacks)
	case api.SelectOr:
		return slices.ContainsFunc(s.Kids, has)
	case api.SelectNot:
		return slices.ContainsFunc(s.Kids, lacks)
	}
	return true
}
