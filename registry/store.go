package registry

import (
	"timetable/api"
	"timetable/coursefile"
	"timetable/curriculum"
	"timetable/requests"
	"timetable/roomfile"
	"timetable/stafffile"
	"timetable/travel"
)

// fieldsOf returns the fields of the records of each file. There are no errors, since the registry is valid.
func fieldsOf(r api.Registry) [api.FileKinds][][]string {
	weeks := r.Term.Weeks
	rooms, _ := roomfile.Write(r.Rooms, r.Grid, weeks)
	ways, _ := travel.Write(r.Travel)
	staff, _ := stafffile.Write(r.Staff, r.Grid, weeks)
	classes, _ := coursefile.Write(r.Classes, r.Grid, weeks)
	curricula, _ := curriculum.Write(r.Curricula)
	wishes, _ := requests.Write(r.Requests)
	return [api.FileKinds][][]string{
		api.FileRooms - 1:     rooms,
		api.FileTravel - 1:    ways,
		api.FileStaff - 1:     staff,
		api.FileClasses - 1:   classes,
		api.FileCurricula - 1: curricula,
		api.FileRequests - 1:  wishes,
	}
}
