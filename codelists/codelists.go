// Package codelists reads, writes and checks lists of few codes, most of them in ascending order, for the layers whose entries have such lists.
package codelists

import (
	"slices"

	"timetable/api"
	"timetable/codes"
)

// Read reads at most MaxFeatures codes in any order, and sorts them.
func Read(s string) ([]string, api.Errno) {
	l, e := ReadFew(s)
	slices.Sort(l)
	return l, e
}

// ReadFew reads at most MaxFeatures codes, and leaves them in their order.
func ReadFew(s string) ([]string, api.Errno) {
	l, e := codes.List(s)
	switch {
	case e != api.OK:
		return nil, e
	case len(l) > api.MaxFeatures:
		return nil, api.ErrSize
	}
	return l, api.OK
}

// Write returns the text of at most MaxFeatures codes, all different, in their order.
func Write(l []string) string {
	s, _ := codes.Join(l) // there is no error, since they are codes, different, and few
	return s
}

// Ascend reports whether a list consists of codes in ascending order.
func Ascend(l []string) bool {
	for i, code := range l {
		if !codes.Valid(code) || i > 0 && code <= l[i-1] {
			return false
		}
	}
	return true
}
