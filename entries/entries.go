// Package entries reads lists of entries, one from each record, for the layers whose files are such lists.
package entries

import "timetable/api"

// Read returns the entries that n fields each describe, and the problems of the records that it leaves out. The function readField reads field i of an entry from a text; accept, which is called with each entry whose fields have no error, tells whether the entry as a whole can be taken.
func Read[T any](l []api.Record, n int, readField func(entry *T, i int, s string) api.Errno, accept func(entry T) api.Errno) ([]T, []api.Problem) {
	var taken []T
	var problems []api.Problem
	for _, record := range l {
		entry, column, e := readEntry(record.Fields, n, readField)
		if e == api.OK {
			e = accept(entry)
		}
		if e != api.OK {
			problems = append(problems, api.Problem{Line: record.Line, Column: column, Code: e})
			continue
		}
		taken = append(taken, entry)
	}
	return taken, problems
}

// readEntry reads an entry from the fields of a record. With an error it returns the column of the field in question, 0 if it is none.
func readEntry[T any](fields []api.Field, n int, readField func(entry *T, i int, s string) api.Errno) (entry T, column int, e api.Errno) {
	if len(fields) != n {
		return entry, 0, api.ErrFields
	}
	for i, field := range fields {
		if e := readField(&entry, i, field.Text); e != api.OK {
			return entry, field.Column, e
		}
	}
	return entry, 0, api.OK
}
