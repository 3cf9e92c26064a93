package travel

import (
	"strconv"

	"timetable/api"
	"timetable/entries"
	"timetable/numerals"
)

// The fields of a record, in their order.
const (
	fieldFrom = iota
	fieldTo
	fieldSlots
	fieldCount
)

const maxDigits = 2 // of a number of slots

// readField reads field i of a way.
func readField(w *way, i int, s string) (e api.Errno) {
	switch i {
	case fieldFrom:
		w.from, e = entries.ReadCode(s)
	case fieldTo:
		w.to, e = entries.ReadCode(s)
	case fieldSlots:
		w.slots, e = readSlots(s)
	}
	return e
}

func readSlots(s string) (int, api.Errno) {
	n, ok := numerals.ReadPadded(s, maxDigits)
	switch {
	case !ok:
		return 0, api.ErrForm
	case n > api.MaxSlots:
		return 0, api.ErrRange
	}
	return n, api.OK
}

func writeFields(w way) []string {
	return []string{fieldFrom: w.from, fieldTo: w.to, fieldSlots: strconv.Itoa(w.slots)}
}
