package rulesyntax

import (
	"slices"

	"timetable/api"
	"timetable/codes"
	"timetable/entries"
	"timetable/timelists"
)

// isSelection reports whether a selection is valid.
func isSelection(s api.Select) bool {
	parts := 0
	var isWrong func(s api.Select, depth int) bool
	isWrong = func(s api.Select, depth int) bool {
		parts++
		isWrongKid := func(kid api.Select) bool { return isWrong(kid, depth+1) }
		// The limits come before the kids, which may be very many, or even contain the selection itself.
		return parts > api.MaxList || depth > api.MaxNesting || !hasForm(s) || slices.ContainsFunc(s.Kids, isWrongKid)
	}
	return !isWrong(s, 1)
}

// hasForm reports whether the name of a selection and the number of its kids are as its kind demands.
func hasForm(s api.Select) bool {
	if hasName(s.Kind) {
		return codes.Valid(s.Name) && len(s.Kids) == 0
	}
	return s.Name == "" && hasKids(s)
}

// hasKids reports whether a selection without a name has as many kids as its kind demands.
func hasKids(s api.Select) bool {
	switch s.Kind {
	case api.SelectAll:
		return len(s.Kids) == 0
	case api.SelectAnd, api.SelectOr:
		return len(s.Kids) >= 2
	case api.SelectNot:
		return len(s.Kids) == 1
	}
	return false
}

// isSecond reports whether a selection can be the second one of a rule of a kind.
func isSecond(s api.Select, kind int) bool {
	if kind == api.RuleBefore {
		return isSelection(s)
	}
	return s.Kind == 0 && s.Name == "" && len(s.Kids) == 0
}

// isNumber reports whether n can be the number of a rule of a kind.
func isNumber(n, kind int) bool {
	if hasNumber(kind) {
		return 0 <= n && n <= api.MaxSlots
	}
	return n == 0
}

// checkTimes returns the first error of the times of a rule.
func checkTimes(u api.Rule, g api.Grid, weeks int) api.Errno {
	if e := checkNeed(len(u.Times), u.Kind == api.RuleAvoid); e != api.OK {
		return e
	}
	switch {
	case len(u.Times) > api.MaxTimes:
		return api.ErrSize
	case !timelists.Fit(u.Times, g, weeks):
		return api.ErrTime
	}
	return api.OK
}

// checkRooms returns the first error of the rooms of a rule.
func checkRooms(u api.Rule) api.Errno {
	if e := checkNeed(len(u.Rooms), u.Kind == api.RuleRooms); e != api.OK {
		return e
	}
	itself := func(code string) string { return code }
	return entries.Check(u.Rooms, api.MaxRooms, checkCode, entries.Distinct(api.MaxRooms, itself))
}

// checkNeed returns the error of a list with n elements that a rule needs, or must not have.
func checkNeed(n int, needed bool) api.Errno {
	switch {
	case needed && n == 0:
		return api.ErrEmpty
	case !needed && n > 0:
		return api.ErrInvalid
	}
	return api.OK
}

func checkCode(code string) api.Errno {
	if !codes.Valid(code) {
		return api.ErrCode
	}
	return api.OK
}
