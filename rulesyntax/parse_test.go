package rulesyntax

import (
	"fmt"
	"slices"
	"strings"
	"testing"

	"timetable/api"
)

// P14.2: a rule of each kind.
func TestParseKinds(t *testing.T) {
	ada := pick(api.SelectStaff, "ada")
	times := []api.Time{{Weeks: 1023, Day: 0, Start: 4, Length: 2}, {Weeks: 341, Day: 1, Start: 4, Length: 2}}
	for line, want := range map[string]api.Rule{
		"n: hard apart staff ada":                             {Kind: api.RuleApart, First: ada},
		"n: 1 sameday staff ada":                              {Weight: 1, Kind: api.RuleSameDay, First: ada},
		"n: 10 otherday staff ada":                            {Weight: 10, Kind: api.RuleOtherDay, First: ada},
		"n: 1000 sameroom staff ada":                          {Weight: 1000, Kind: api.RuleSameRoom, First: ada},
		"n: 7 samestart staff ada":                            {Weight: 7, Kind: api.RuleSameStart, First: ada},
		"n: 7 before staff ada, all":                          {Weight: 7, Kind: api.RuleBefore, First: ada, Second: everything()},
		"n: 7 before all or staff ada, staff ada":             {Weight: 7, Kind: api.RuleBefore, First: either(everything(), ada), Second: ada},
		"n: hard most 2 staff ada":                            {Kind: api.RuleMost, N: 2, First: ada},
		"n: 7 gap 0 staff ada":                                {Weight: 7, Kind: api.RuleGap, First: ada},
		"n: 7 span 24 staff ada":                              {Weight: 7, Kind: api.RuleSpan, N: 24, First: ada},
		"n: 7 avoid staff ada, [Mo 5-6; Tu 5-6 odd]":          {Weight: 7, Kind: api.RuleAvoid, First: ada, Times: times},
		"n: 7 avoid all, [Fr 10 1-3,7]":                       {Weight: 7, Kind: api.RuleAvoid, First: everything(), Times: []api.Time{{Weeks: 71, Day: 4, Start: 9, Length: 1}}},
		"n: 7 rooms staff ada, [R1..R3;X]":                    {Weight: 7, Kind: api.RuleRooms, First: ada, Rooms: []string{"R1", "R2", "R3", "X"}},
		"n: 7 rooms all, [Y]":                                 {Weight: 7, Kind: api.RuleRooms, First: everything(), Rooms: []string{"Y"}},
		"n: 7 travel staff ada":                               {Weight: 7, Kind: api.RuleTravel, First: ada},
		"n: 7 travel not (class x and part lec or course MA)": {Weight: 7, Kind: api.RuleTravel, First: not(either(both(pick(api.SelectClass, "x"), pick(api.SelectPart, "lec")), pick(api.SelectCourse, "MA")))},
	} {
		want.Name, want.Line = "n", 1
		checkParse(t, line, []api.Rule{want})
		checkParse(t, line+"\n", []api.Rule{want})
		want.Line = 4
		checkParse(t, "\n#\n \t\n"+line+"\n\n#\n", []api.Rule{want})
	}
}

// P14.2: selections.
func TestParseSelections(t *testing.T) {
	all, x, y := everything(), pick(api.SelectClass, "x"), pick(api.SelectStaff, "y")
	for text, want := range map[string]api.Select{
		"all":                                    all,
		"class x":                                x,
		"course x":                               pick(api.SelectCourse, "x"),
		"part x":                                 pick(api.SelectPart, "x"),
		"curriculum x":                           pick(api.SelectCurriculum, "x"),
		"staff y":                                y,
		"feature x":                              pick(api.SelectFeature, "x"),
		"not all":                                not(all),
		"not not class x":                        not(not(x)),
		"class x and staff y":                    both(x, y),
		"class x or staff y":                     either(x, y),
		"all and class x and staff y":            both(all, x, y),
		"all or class x or staff y":              either(all, x, y),
		"all and class x or staff y":             either(both(all, x), y),
		"all or class x and staff y":             either(all, both(x, y)),
		"all and class x or staff y and not all": either(both(all, x), both(y, not(all))),
		"not all and class x":                    both(not(all), x),
		"not all or class x":                     either(not(all), x),
		"not (all and class x)":                  not(both(all, x)),
		"not (all or class x)":                   not(either(all, x)),
		"all and (class x or staff y)":           both(all, either(x, y)),
		"(all or class x) and staff y":           both(either(all, x), y),
		"all or (class x and staff y)":           either(all, both(x, y)),
		"all or (class x or staff y)":            either(all, either(x, y)),
		"all and (class x and staff y)":          both(all, both(x, y)),
		"(all and class x) and staff y":          both(both(all, x), y),
		"(all or class x) or staff y":            either(either(all, x), y),
		"(all)":                                  all,
		"((class x))":                            x,
		"(not (all))":                            not(all),
		"((all or class x))":                     either(all, x),
		"(all) and ((class x) and (staff y))":    both(all, both(x, y)),
	} {
		checkSelection(t, text, want)
		checkSelection(t, "("+text+")", want)
		checkParse(t, "a: hard before "+text+", "+text, []api.Rule{{Name: "a", Kind: api.RuleBefore, First: want, Second: want, Line: 1}})
	}
}

// grammarWords are all words of the grammar.
func grammarWords() []string {
	return []string{"hard", "apart", "sameday", "otherday", "sameroom", "samestart", "before", "most", "gap", "span", "avoid", "rooms", "travel", "all", "class", "course", "part", "curriculum", "staff", "feature", "and", "or", "not"}
}

// P14.2: a NAME may be a word of the grammar, too, or a number.
func TestParseNames(t *testing.T) {
	for _, name := range append(grammarWords(), "0", "007", "12345", "Mo", "HARD", "x-_", "9_", strings.Repeat("x", 16)) {
		checkParse(t, name+": hard apart staff "+name, []api.Rule{{Name: name, Kind: api.RuleApart, First: pick(api.SelectStaff, name), Line: 1}})
		for kind, word := range map[int]string{api.SelectClass: "class", api.SelectCourse: "course", api.SelectPart: "part", api.SelectCurriculum: "curriculum", api.SelectFeature: "feature"} {
			checkSelection(t, word+" "+name+" or "+word+" "+name+" and not "+word+" "+name, either(pick(kind, name), both(pick(kind, name), not(pick(kind, name)))))
		}
	}
	for _, name := range []string{"_", "-", "_a", "-a", "-1", "--", strings.Repeat("x", 17), strings.Repeat("9", 1000)} {
		checkFault(t, name+": hard apart all", 1, api.ErrSyntax)
		checkFault(t, "  a: hard apart class  "+name, 24, api.ErrSyntax)
	}
}

// P14.2: numbers, as weights and behind words.
func TestParseNumbers(t *testing.T) {
	for n := range 10000 {
		u := api.Rule{Name: "a", Weight: n, Kind: api.RuleMost, N: n % 25, First: everything(), Line: 1}
		line := fmt.Sprintf("a: %d most %d all", n, n%25)
		switch {
		case n == 0:
			checkParse(t, line, nil, problem(1, 4, api.ErrSyntax))
		case n > 1000:
			checkParse(t, line, nil, problem(1, 0, api.ErrRange))
		default:
			checkParse(t, line, []api.Rule{u})
		}
		if n > 24 {
			checkParse(t, fmt.Sprintf("a: hard gap %d all", n), nil, problem(1, 0, api.ErrRange))
		}
	}
	for _, s := range []string{"00", "01", "007", "0001", "10000", "99999", "99999999999999999999", "-1", "1-2", "1_0", "_1", "x", "1x", "0x1", "1e3", "Hard", "HARD", "all"} {
		checkFault(t, "a: "+s+" apart all", 4, api.ErrSyntax)
		for _, word := range []string{"most", "gap", "span"} {
			checkFault(t, "a: 1 "+word+" "+s+" all", 7+len(word), api.ErrSyntax)
		}
	}
	checkFault(t, "a: 1 most hard all", 11, api.ErrSyntax)
	checkFault(t, "a: 1 gap 1.5 all", 11, api.ErrCharacter)
	checkFault(t, "a: 1 gap +1 all", 10, api.ErrCharacter)
}

// P14.2: spaces, tabulators and comments.
func TestParseSpaces(t *testing.T) {
	x := pick(api.SelectClass, "x")
	for _, blank := range []string{"", " ", "\t", "  ", " \t \t"} {
		words := strings.NewReplacer("_", blank, "~", blank+" ")
		u := api.Rule{Name: "q", Weight: 1, Kind: api.RuleGap, First: either(not(both(everything(), x)), x), Line: 1}
		checkParse(t, words.Replace("_q_:_1~gap~0_(_not~(_all~and~class~x_)_or_(_class~x_)_)_"), []api.Rule{u})
		checkParse(t, words.Replace("_q_:_1~gap~0(not~(all~and~class~x_)or~class~x)_#_"), []api.Rule{u})
		u = api.Rule{Name: "q", Kind: api.RuleRooms, First: x, Rooms: []string{"R"}, Line: 1}
		checkParse(t, words.Replace("_q_:_hard~rooms_(_class~x_)_,_[R]_"), []api.Rule{u})
		checkParse(t, words.Replace("_q_:_hard~rooms~class~x_,_[R]_#"), []api.Rule{u})
		u = api.Rule{Name: "q", Kind: api.RuleBefore, First: x, Second: everything(), Line: 1}
		checkParse(t, words.Replace("_q_:_hard~before(_class~x_)_,_all_"), []api.Rule{u})
	}
	for _, line := range []string{"", " ", "\t", " \t ", "#", " #", "#$", "\t# a: 1 apart all", "##", "# \r", "#\xff", " # [ ( :"} {
		checkParse(t, line, nil)
		checkParse(t, line+"\n"+line+"\n", nil)
	}
	for _, end := range []string{"#", " #", "# x", "#$", "##", "#]", " # \xff\r\x00"} {
		checkSelection(t, "all"+end, everything())
		checkSelection(t, "class x"+end, x)
	}
	checkFault(t, "a: hard apart class# x", 23, api.ErrSyntax)
	checkFault(t, "a: hard# apart all", 19, api.ErrSyntax)
	checkFault(t, "a#: hard apart all", 19, api.ErrSyntax)
}

// P14.2: the times between brackets.
func TestParseTimes(t *testing.T) {
	monday, tuesday := api.Time{Weeks: 1023, Length: 1}, api.Time{Weeks: 341, Day: 1, Start: 2, Length: 2}
	avoid := func(l ...api.Time) []api.Rule {
		return []api.Rule{{Name: "a", Kind: api.RuleAvoid, First: everything(), Times: l, Line: 1}}
	}
	for _, list := range []string{"[Mo 1]", "[ Mo 1 ]", "[  Mo 1]", "[Mo 1  ]", "[Mo 1 all]", "[Mo 1-1]"} {
		checkParse(t, "a: hard avoid all,"+list, avoid(monday))
		checkParse(t, "a: hard avoid all, "+list+" \t# ]", avoid(monday))
	}
	for _, list := range []string{"[Mo 1;Tu 3-4 odd]", "[Mo 1; Tu 3-4 odd]", "[   Mo 1  ;  Tu 3-4 odd   ]", "[Mo 1 ;Tu 3-4 1,3,5,7,9]"} {
		checkParse(t, "a: hard avoid all, "+list, avoid(monday, tuesday))
	}
	checkParse(t, "a: hard avoid all, [Mo 1;Mo 1; Mo 1]", avoid(monday, monday, monday))
	for list, e := range map[string]api.Errno{
		"[]": api.ErrForm, "[ ]": api.ErrForm, "[;]": api.ErrForm, "[Mo 1;]": api.ErrForm, "[;Mo 1]": api.ErrForm, "[Mo 1;;Mo 1]": api.ErrForm, "[Mo  1]": api.ErrForm,
		"[\tMo 1]": api.ErrForm, "[Mo 1\t]": api.ErrForm, "[Mo\t1]": api.ErrForm, "[Mo 1\r]": api.ErrForm, "[Mo 1,Tu 1]": api.ErrForm, "[[Mo 1]": api.ErrForm, "[(]": api.ErrForm, "[mo 1]": api.ErrForm, "[\u00a0Mo 1]": api.ErrForm, "[\x00]": api.ErrForm, "[\xff$]": api.ErrForm,
		"[Sa 1]": api.ErrTime, "[Mo 11]": api.ErrTime, "[Mo 2-1]": api.ErrTime, "[Mo 1 x]": api.ErrForm, "[Mo 1 11]": api.ErrRange,
		"[Mo 1;Sa 1;?]": api.ErrTime, "[Mo 1;?;Sa 1]": api.ErrForm, "[Mo 1 11;Sa 1;?]": api.ErrRange,
	} {
		checkFault(t, "a: hard avoid all, "+list, 0, e)
		checkFault(t, "a: 1001 avoid all, "+list+" # ]", 0, e) // the error of the rule comes behind it
	}
	many := strings.Repeat("Mo 1; ", 23)
	checkParse(t, "a: hard avoid all, ["+many+"Mo 1]", avoid(slices.Repeat([]api.Time{monday}, 24)...))
	checkFault(t, "a: hard avoid all, ["+many+"Mo 1; Mo 1]", 0, api.ErrSize)
	checkFault(t, "a: 1001 avoid all, ["+many+"Mo 1; Mo 1]", 0, api.ErrRange)
	checkFault(t, "a: hard avoid all, ["+many+"Mo 1; Mo 1; Sa 1]", 0, api.ErrTime)
}

// P14.2: the weeks of times are those of the term, and the grid is the one that is given.
func TestParseFrame(t *testing.T) {
	l, p := Parse("a: 1 avoid all, [Sa 12]\nb: 1 avoid all, [Su 1]\nc: 1 avoid all, [Mo 1 11]\nd: 1 avoid all, [Mo 1 12]", api.Grid{Days: 6, Slots: 12, Minutes: 30}, 11)
	if len(l) != 2 || l[0].Times[0] != (api.Time{Weeks: 1<<11 - 1, Day: 5, Start: 11, Length: 1}) || l[1].Times[0].Weeks != 1<<10 {
		t.Errorf("rules %+v", l)
	}
	if want := []api.Problem{problem(2, 0, api.ErrTime), problem(4, 0, api.ErrRange)}; !slices.Equal(p, want) {
		t.Errorf("problems %v, want %v", p, want)
	}
}

// P14.2: the rooms between brackets.
func TestParseRooms(t *testing.T) {
	rooms := func(l ...string) []api.Rule {
		return []api.Rule{{Name: "a", Kind: api.RuleRooms, First: everything(), Rooms: l, Line: 1}}
	}
	for list, want := range map[string]string{
		"[R1]": "R1", "[ R1 ]": "R1", "[R1;X]": "R1 X", "[ R1 ; X ]": "R1 X", "[R08..R10;X]": "R08 R09 R10 X", "[X;  R08..R10  ]": "X R08 R09 R10", "[b;a;B]": "b a B", "[R1..R16]": "R1 R2 R3 R4 R5 R6 R7 R8 R9 R10 R11 R12 R13 R14 R15 R16",
	} {
		checkParse(t, "a: hard rooms all,"+list, rooms(strings.Fields(want)...))
		checkParse(t, "a: hard rooms all, "+list+"\t# ]", rooms(strings.Fields(want)...))
	}
	for list, e := range map[string]api.Errno{
		"[;]": api.ErrForm, "[ ; ]": api.ErrForm, "[R1;]": api.ErrForm, "[;R1]": api.ErrForm, "[R1; ;R2]": api.ErrForm, "[R1....R2]": api.ErrForm,
		"[?]": api.ErrCode, "[R 1]": api.ErrCode, "[R1 .. R2]": api.ErrCode, "[\tR1]": api.ErrCode, "[R1\t]": api.ErrCode, "[R1,R2]": api.ErrCode, "[[R1]": api.ErrCode, "[R1\r]": api.ErrCode, "[\xff]": api.ErrCode,
		"[R2..R1]": api.ErrRange, "[R1..R65]": api.ErrSize, "[R1;R1]": api.ErrDuplicate, "[R1; R1]": api.ErrDuplicate, "[R1..R17;R1]": api.ErrDuplicate,
	} {
		checkFault(t, "a: hard rooms all, "+list, 0, e)
		checkFault(t, "a: 1001 rooms all, "+list, 0, e) // the error of the rule comes behind it
	}
	for _, list := range []string{"[]", "[ ]", "[    ]"} {
		checkFault(t, "a: hard rooms all, "+list, 0, api.ErrEmpty)
		checkFault(t, "a: 1001 rooms all, "+list, 0, api.ErrRange)
	}
	for _, list := range []string{"[R1..R17]", "[R1..R64]", "[R1..R16;X]"} {
		checkFault(t, "a: hard rooms all, "+list, 0, api.ErrSize)
		checkFault(t, "a: 1001 rooms all, "+list, 0, api.ErrRange)
	}
}

// R2: results share no memory with each other.
func TestParseMemory(t *testing.T) {
	text := "a: 1 avoid all or not all, [Mo 1; Tu 1]\nb: 2 avoid all or not all, [Mo 1; Tu 1]\nc: 3 rooms all and all, [R1..R3]\nd: 4 rooms all and all, [R1..R3]\ne: 5 before all or all, all or all"
	want, _ := Parse(text, grid(), tenWeeks)
	for i := range want {
		l, _ := Parse(text, grid(), tenWeeks)
		clear(l[i].First.Kids)
		clear(l[i].Times)
		clear(l[i].Rooms)
		l[i].First, l[i].Times, l[i].Rooms = want[i].First, want[i].Times, want[i].Rooms
		if !slices.EqualFunc(l, want, equalRules) {
			t.Errorf("a change of the rule %d made %+v", i, l)
		}
	}
}
