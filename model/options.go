package model

import (
	"slices"

	"timetable/api"
	"timetable/coursefile"
	"timetable/registry"
	"timetable/roomfile"
	"timetable/stafffile"
)

const noRoom = -1 // the room of a class that needs none

// placesOf returns where and when a class of a valid registry may take place.
func placesOf(r api.Registry, c api.Class) ([]api.Placed, api.Errno) {
	var l []api.Placed
	for _, t := range coursefile.Times(c, r.Grid) {
		if !areFree(r, c.Staff, t) {
			continue
		}
		for _, room := range roomsAt(r, c, t) {
			l = append(l, api.Placed{Time: t, Room: room})
		}
		if len(l) > api.MaxOptions {
			return nil, api.ErrSize
		}
	}
	return l, api.OK
}

// areFree reports whether all of these lecturers are there at a time.
func areFree(r api.Registry, staff []string, t api.Time) bool {
	isAway := func(code string) bool {
		return !stafffile.Free(r.Staff[registry.Index(r, api.FileStaff, code)], t)
	}
	return !slices.ContainsFunc(staff, isAway)
}

// roomsAt returns the rooms that a class may have at a time.
func roomsAt(r api.Registry, c api.Class, t api.Time) []int {
	if c.Seats == 0 {
		return []int{noRoom}
	}
	var l []int
	for i, room := range r.Rooms {
		if roomfile.Fits(room, c) && roomfile.Open(room, t) {
			l = append(l, i)
		}
	}
	return l
}

// optionsAt returns options at these places, which cost nothing.
func optionsAt(places []api.Placed) []api.Option {
	var l []api.Option
	for _, place := range places {
		l = append(l, api.Option{Place: place})
	}
	return l
}
