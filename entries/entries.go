// Package entries reads, writes and checks lists of entries, one from each record, for the layers whose files are such lists.
package entries

import (
	"strings"

	"timetable/api"
	"timetable/codes"
)

// Read returns the entries that n fields each describe, and the problems of the records that it leaves out. The function readField reads field i of an entry from a text; accept, which is called with each entry whose fields have no error, tells whether the entry as a whole can be taken.
func Read[T any](l []api.Record, n int, readField func(entry *T, i int, s string) api.Errno, accept func(entry T) api.Errno) ([]T, []api.Problem) {
	var taken []T
	var problems []api.Problem
	for _, record := range l {
		entry, column, e := readEntry(record.Fields, n, readField)
		if e == api.OK {
			e = accept(entry)
		}
		if e != api.OK {
			problems = append(problems, api.Problem{Line: record.Line, Column: column, Code: e})
			continue
		}
		taken = append(taken, entry)
	}
	return taken, problems
}

// Write returns the fields of each entry, or the error of the list, if it has one.
func Write[T any](l []T, e api.Errno, writeFields func(entry T) []string) ([][]string, api.Errno) {
	if e != api.OK {
		return nil, e
	}
	var fields [][]string
	for _, entry := range l {
		fields = append(fields, writeFields(entry))
	}
	return fields, api.OK
}

// Check returns the first error of a list of at most so many entries. The function check returns the error of an entry alone; accept, which is called with each entry that has none, tells whether the entry can be taken together with those before.
func Check[T any](l []T, most int, check, accept func(entry T) api.Errno) api.Errno {
	if len(l) > most {
		return api.ErrSize
	}
	for _, entry := range l {
		if e := check(entry); e != api.OK {
			return e
		}
		if e := accept(entry); e != api.OK {
			return e
		}
	}
	return api.OK
}

// Distinct returns a function that accepts so many entries at most, all of which have different keys.
func Distinct[T any, K comparable](most int, keyOf func(entry T) K) func(entry T) api.Errno {
	accepted := make(map[K]T)
	return func(entry T) api.Errno {
		key := keyOf(entry)
		_, known := accepted[key]
		switch {
		case known:
			return api.ErrDuplicate
		case len(accepted) == most:
			return api.ErrSize
		}
		accepted[key] = entry
		return api.OK
	}
}

// ReadCode reads a field that is a code.
func ReadCode(s string) (string, api.Errno) {
	if !codes.Valid(s) {
		return "", api.ErrCode
	}
	return s, api.OK
}

// ReadParts reads a field whose parts are separated, so many at most, with a function that reads each of them.
func ReadParts[T any](s, separator string, most int, readPart func(part string) (T, api.Errno)) ([]T, api.Errno) {
	var l []T
	for part := range strings.SplitSeq(s, separator) {
		x, e := readPart(part)
		if e != api.OK {
			return nil, e
		}
		l = append(l, x)
	}
	// Only now, because an error of any part comes first.
	if len(l) > most {
		return nil, api.ErrSize
	}
	return l, api.OK
}

// readEntry reads an entry from the fields of a record. With an error it returns the column of the field in question, 0 if it is none.
func readEntry[T any](fields []api.Field, n int, readField func(entry *T, i int, s string) api.Errno) (entry T, column int, e api.Errno) {
	if len(fields) != n {
		return entry, 0, api.ErrFields
	}
	for i, field := range fields {
		if e := readField(&entry, i, field.Text); e != api.OK {
			return entry, field.Column, e
		}
	}
	return entry, 0, api.OK
}
