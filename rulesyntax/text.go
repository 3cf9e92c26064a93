package rulesyntax

import (
	"strconv"
	"strings"

	"timetable/api"
	"timetable/codes"
	"timetable/timelists"
)

// ruleText returns the text of a valid rule.
func ruleText(u api.Rule, g api.Grid, weeks int) string {
	words := []string{u.Name + colon, weightText(u.Weight), ruleWords[u.Kind]}
	if hasNumber(u.Kind) {
		words = append(words, strconv.Itoa(u.N))
	}
	first := selectText(u.First)
	switch u.Kind {
	case api.RuleBefore:
		words = append(words, first+comma, selectText(u.Second))
	case api.RuleAvoid:
		words = append(words, first+comma, bracketOpen+timesText(u.Times, g, weeks)+bracketClose)
	case api.RuleRooms:
		words = append(words, first+comma, bracketOpen+roomsText(u.Rooms)+bracketClose)
	default:
		words = append(words, first)
	}
	return strings.Join(words, space)
}

func weightText(weight int) string {
	if weight == 0 {
		return hard
	}
	return strconv.Itoa(weight)
}

// timesText returns the text of times that fit, in which semicolons stand between them only.
func timesText(l []api.Time, g api.Grid, weeks int) string {
	return strings.ReplaceAll(timelists.Write(l, g, weeks), separator, separator+space)
}

// roomsText returns the text of valid rooms.
func roomsText(l []string) string {
	s, _ := codes.Join(l) // there is no error, since they are codes, different, and few
	return s
}

// selectText returns the text of a valid selection.
func selectText(s api.Select) string {
	word := selectWords[s.Kind]
	switch {
	case hasName(s.Kind):
		return word + space + s.Name
	case len(s.Kids) == 0:
		return word
	case s.Kind == api.SelectNot:
		return word + space + kidText(s.Kids[0], s.Kind)
	}
	var kids []string
	for _, kid := range s.Kids {
		kids = append(kids, kidText(kid, s.Kind))
	}
	return strings.Join(kids, space+word+space)
}

// kidText returns the text of a kid of a selection of a kind.
func kidText(kid api.Select, kind int) string {
	text := selectText(kid)
	isJoined := kid.Kind == api.SelectAnd || kid.Kind == api.SelectOr
	if isJoined && !(kid.Kind == api.SelectAnd && kind == api.SelectOr) {
		return parenOpen + text + parenClose
	}
	return text
}
