// Package timelists reads, writes and checks lists of times, for the layers whose entries have such lists.
package timelists

import (
	"slices"
	"strings"

	"timetable/api"
	"timetable/entries"
	"timetable/timegrid"
)

const separator = ";" // between times

// IsFrame reports whether a grid and a number of weeks are such that times can fit them.
func IsFrame(g api.Grid, weeks int) bool {
	return timegrid.Valid(g) == api.OK && 1 <= weeks && weeks <= api.MaxWeeks
}

// Read reads at most MaxTimes times that are separated by semicolons; the empty text is none.
func Read(s string, g api.Grid, weeks int) ([]api.Time, api.Errno) {
	if s == "" {
		return nil, api.OK
	}
	readTime := func(part string) (api.Time, api.Errno) { return timegrid.Parse(g, weeks, part) }
	return entries.ReadParts(s, separator, api.MaxTimes, readTime)
}

// Write returns the text of times that fit.
func Write(l []api.Time, g api.Grid, weeks int) string {
	var parts []string
	for _, t := range l {
		part, _ := timegrid.Format(g, weeks, t) // there is no error, since the time fits
		parts = append(parts, part)
	}
	return strings.Join(parts, separator)
}

// Fit reports whether all times of a list fit.
func Fit(l []api.Time, g api.Grid, weeks int) bool {
	unfit := func(t api.Time) bool { return timegrid.Fits(g, weeks, t) != api.OK }
	return !slices.ContainsFunc(l, unfit)
}

// Overlap reports whether a time of a list overlaps another time.
func Overlap(l []api.Time, other api.Time) bool {
	overlaps := func(t api.Time) bool { return timegrid.Overlap(t, other) }
	return slices.ContainsFunc(l, overlaps)
}
