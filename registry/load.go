package registry

import (
	"cmp"
	"slices"

	"timetable/api"
	"timetable/coursefile"
	"timetable/curriculum"
	"timetable/records"
	"timetable/requests"
	"timetable/roomfile"
	"timetable/stafffile"
	"timetable/travel"
)

// loader reads the files of a registry, and collects their problems.
type loader struct {
	files    []string
	problems []api.Problem
}

// load returns the registry. A file comes behind those with what it names, so that their entries are known.
func (l *loader) load(g api.Grid, t api.Term) api.Registry {
	r := api.Registry{Grid: g, Term: t}
	r.Rooms, _ = readFile(l, api.FileRooms, fitting(roomfile.Read, g, t.Weeks))
	r.Travel, _ = readFile(l, api.FileTravel, travel.Read)
	r.Staff, _ = readFile(l, api.FileStaff, fitting(stafffile.Read, g, t.Weeks))
	r.Classes = readKnown(l, api.FileClasses, fitting(coursefile.Read, g, t.Weeks), staffedBy(r.Staff))
	r.Curricula = readKnown(l, api.FileCurricula, curriculum.Read, taughtIn(r.Classes))
	r.Requests = readKnown(l, api.FileRequests, requests.Read, offeredIn(r.Classes))
	return r
}

// report adds problems of a file.
func (l *loader) report(file int, problems ...api.Problem) {
	for _, p := range problems {
		p.File = file
		l.problems = append(l.problems, p)
	}
}

// sortedProblems returns the problems in the order of their places.
func (l *loader) sortedProblems() []api.Problem {
	slices.SortStableFunc(l.problems, func(a, b api.Problem) int {
		return cmp.Or(cmp.Compare(a.File, b.File), cmp.Compare(a.Line, b.Line), cmp.Compare(a.Column, b.Column))
	})
	return l.problems
}

// fitting returns the function read for records whose times must fit a grid and a number of weeks.
func fitting[T any](read func([]api.Record, api.Grid, int) (T, []api.Problem), g api.Grid, weeks int) func([]api.Record) (T, []api.Problem) {
	return func(l []api.Record) (T, []api.Problem) { return read(l, g, weeks) }
}

// readFile returns what the function read makes of a file, and the lines of the records that are in it.
func readFile[T any](l *loader, file int, read func([]api.Record) (T, []api.Problem)) (content T, lines []int) {
	list, damage := records.Parse(l.files[file-1], dialect())
	content, problems := read(list)
	l.report(file, damage...)
	l.report(file, problems...)
	return content, linesOf(list, problems)
}

// readKnown returns the entries of a file, but for those that name something that is not known.
func readKnown[T any](l *loader, file int, read func([]api.Record) ([]T, []api.Problem), isKnown func(entry T) bool) []T {
	all, lines := readFile(l, file, read)
	var known []T
	for i, entry := range all {
		if isKnown(entry) {
			known = append(known, entry)
		} else {
			l.report(file, api.Problem{Line: lines[i], Code: api.ErrUnknown})
		}
	}
	return known
}

// linesOf returns the lines of the records without a problem. Records are told apart by their lines: no two begin in the same one.
func linesOf(l []api.Record, problems []api.Problem) []int {
	var lines []int
	for _, record := range l {
		if !slices.ContainsFunc(problems, func(p api.Problem) bool { return p.Line == record.Line }) {
			lines = append(lines, record.Line)
		}
	}
	return lines
}
