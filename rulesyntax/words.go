package rulesyntax

import "timetable/api"

const (
	lineEnd   = "\n"
	comment   = "#"   // not read, with what stands behind it in the line
	blanks    = " \t" // between words and signs
	space     = " "   // between the words that are written, and left out around the parts of a list
	separator = ";"   // between the parts of a list
	hard      = "hard"
)

// The signs.
const (
	colon        = ":" // behind the name of a rule
	comma        = "," // behind the first selection
	parenOpen    = "(" // around a selection
	parenClose   = ")"
	bracketOpen  = "[" // around a list
	bracketClose = "]"
	signs        = colon + comma + parenOpen + parenClose + bracketOpen + bracketClose
)

// wordBytes are those that belong to words.
const wordBytes = "ABCDEFGHIJKLMNOPQRSTUVWXYZabcdefghijklmnopqrstuvwxyz0123456789_-"

// ruleWords are the words of the kinds of rules.
var ruleWords = [...]string{
	api.RuleApart:     "apart",
	api.RuleSameDay:   "sameday",
	api.RuleOtherDay:  "otherday",
	api.RuleSameRoom:  "sameroom",
	api.RuleSameStart: "samestart",
	api.RuleBefore:    "before",
	api.RuleMost:      "most",
	api.RuleGap:       "gap",
	api.RuleSpan:      "span",
	api.RuleAvoid:     "avoid",
	api.RuleRooms:     "rooms",
	api.RuleTravel:    "travel",
}

// selectWords are the words of the kinds of selections.
var selectWords = [...]string{
	api.SelectAll:        "all",
	api.SelectClass:      "class",
	api.SelectCourse:     "course",
	api.SelectPart:       "part",
	api.SelectCurriculum: "curriculum",
	api.SelectStaff:      "staff",
	api.SelectFeature:    "feature",
	api.SelectAnd:        "and",
	api.SelectOr:         "or",
	api.SelectNot:        "not",
}

// ruleKind returns the kind of rules with a word; 0, which no kind is, if there is none.
func ruleKind(word string) int {
	for kind, w := range ruleWords {
		if w == word {
			return kind
		}
	}
	return 0
}

// selectKind returns the kind of selections with a word; 0, which no kind is, if there is none.
func selectKind(word string) int {
	for kind, w := range selectWords {
		if w == word {
			return kind
		}
	}
	return 0
}

// hasNumber reports whether rules of a kind have a number besides the weight.
func hasNumber(kind int) bool {
	return kind == api.RuleMost || kind == api.RuleGap || kind == api.RuleSpan
}

// hasName reports whether selections of a kind have a name.
func hasName(kind int) bool { return api.SelectClass <= kind && kind <= api.SelectFeature }
