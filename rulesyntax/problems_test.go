package rulesyntax

import (
	"fmt"
	"slices"
	"strings"
	"testing"

	"timetable/api"
)

// P14.2: no rules at all; nothing else is a problem then.
func TestProblemsFrame(t *testing.T) {
	refused := func(text string, g api.Grid, weeks int, e api.Errno) {
		t.Helper()
		if l, p := Parse(text, g, weeks); len(l) > 0 || !slices.Equal(p, []api.Problem{{Code: e}}) {
			t.Errorf("%v, %d weeks: %v, %v, want the error %d", g, weeks, l, p, e)
		}
	}
	long := strings.Repeat("a: 1 apart all\n", 5000)
	for _, text := range []string{"", "a: 1 apart all", "$", long} {
		for _, g := range wrongGrids() {
			refused(text, g, tenWeeks, api.ErrInvalid)
		}
		for _, weeks := range wrongWeeks() {
			refused(text, grid(), weeks, api.ErrInvalid)
		}
	}
	refused(long, grid(), tenWeeks, api.ErrSize)
	refused(strings.Repeat(" ", 1<<16+1), grid(), tenWeeks, api.ErrSize)
	refused(strings.Repeat("\n", 1<<16+1), grid(), tenWeeks, api.ErrSize)
	refused(strings.Repeat("$", 1<<24), grid(), tenWeeks, api.ErrSize)
	rules := []api.Rule{{Name: "a", Weight: 1, Kind: api.RuleApart, First: everything(), Line: 1}}
	checkParse(t, "a: 1 apart all"+strings.Repeat("\n", 1<<16-14), rules)
	checkParse(t, "a: 1 apart all #"+strings.Repeat("x", 1<<16-16), rules)
	rules[0].Line = 1<<16 - 13
	checkParse(t, strings.Repeat("\n", 1<<16-14)+"a: 1 apart all", rules)
	for weeks := 1; weeks <= 20; weeks++ {
		if l, p := Parse("a: 1 avoid all, [Mo 1]", grid(), weeks); len(l) != 1 || l[0].Times[0].Weeks != 1<<weeks-1 || len(p) > 0 {
			t.Errorf("%d weeks: %v, %v", weeks, l, p)
		}
	}
}

// P14.2: every byte, where a word or a sign could be, and where the grammar allows nothing more.
func TestProblemsBytes(t *testing.T) {
	const line = " a : hard apart ( class x ) , [ "
	for i := range 256 {
		c := string([]byte{byte(i)})
		isWord := strings.Contains("ABCDEFGHIJKLMNOPQRSTUVWXYZabcdefghijklmnopqrstuvwxyz0123456789_-", c)
		switch {
		case c == "\n":
		case c == "#":
			checkParse(t, c+"$", nil)
			checkFault(t, "a"+c+"$", 4, api.ErrSyntax)
		case c == " " || c == "\t":
			checkParse(t, c, nil)
			checkSelection(t, c+"class"+c+"x"+c, pick(api.SelectClass, "x"))
		default:
			want := api.ErrCharacter
			if isWord || strings.Contains(":,()[]", c) {
				want = api.ErrSyntax
			}
			first := want
			if isWord && c != "_" && c != "-" {
				first = api.OK
			}
			checkStart(t, c, first)
			for _, at := range []int{3, 16, 26, 28} { // where it is the next one that the grammar does not allow
				if at == 16 && c == "(" || at == 28 && c == "," || at == 3 && c == ":" || at == 26 && c == ")" {
					continue
				}
				checkFault(t, line[:at]+c, at+1, want)
				checkFault(t, line[:at]+c+line[at:], at+1, want)
			}
		}
	}
}

// checkStart checks a line that begins with a byte.
func checkStart(t *testing.T, c string, e api.Errno) {
	t.Helper()
	if e == api.OK {
		checkFault(t, c, 2, api.ErrSyntax)
		checkFault(t, " "+c+"  ", 5, api.ErrSyntax)
		return
	}
	checkFault(t, c, 1, e)
	checkFault(t, "\t "+c+": 1 apart all", 3, e)
}

// P14.2: the first error from the left, whatever comes behind it.
func TestProblemsFirst(t *testing.T) {
	for _, x := range []struct {
		line   string
		column int
		e      api.Errno
	}{
		{"a", 2, api.ErrSyntax},
		{"a ", 3, api.ErrSyntax},
		{"a\t#\t", 5, api.ErrSyntax},
		{"a:", 3, api.ErrSyntax},
		{"a::", 3, api.ErrSyntax},
		{": hard apart all", 1, api.ErrSyntax},
		{"a hard apart all", 3, api.ErrSyntax},
		{"a, hard apart all", 2, api.ErrSyntax},
		{"a b: hard apart all", 3, api.ErrSyntax},
		{"a: apart all", 4, api.ErrSyntax},
		{"a: hard 1 apart all", 9, api.ErrSyntax},
		{"a: hard all", 9, api.ErrSyntax},
		{"a: hard Apart all", 9, api.ErrSyntax},
		{"a: hard apart", 14, api.ErrSyntax},
		{"a: hard apart x", 15, api.ErrSyntax},
		{"a: hard apart All", 15, api.ErrSyntax},
		{"a: hard apart and", 15, api.ErrSyntax},
		{"a: hard apart or all", 15, api.ErrSyntax},
		{"a: hard apart not", 18, api.ErrSyntax},
		{"a: hard apart all not all", 19, api.ErrSyntax},
		{"a: hard apart all and", 22, api.ErrSyntax},
		{"a: hard apart all and or all", 23, api.ErrSyntax},
		{"a: hard apart class (x)", 21, api.ErrSyntax},
		{"a: hard apart class x y", 23, api.ErrSyntax},
		{"a: hard apart class x class y", 23, api.ErrSyntax},
		{"a: hard apart ()", 16, api.ErrSyntax},
		{"a: hard apart (all", 19, api.ErrSyntax},
		{"a: hard apart ((all)", 21, api.ErrSyntax},
		{"a: hard apart (all, all)", 19, api.ErrSyntax},
		{"a: hard apart (all))", 20, api.ErrSyntax},
		{"a: hard apart all, all", 18, api.ErrSyntax},
		{"a: hard apart 2 all", 15, api.ErrSyntax},
		{"a: hard before all", 19, api.ErrSyntax},
		{"a: hard before all,", 20, api.ErrSyntax},
		{"a: hard before all all", 20, api.ErrSyntax},
		{"a: hard before all, all, all", 24, api.ErrSyntax},
		{"a: hard before (all, all)", 20, api.ErrSyntax},
		{"a: hard before all, [Mo 1]", 21, api.ErrSyntax},
		{"a: hard most all", 14, api.ErrSyntax},
		{"a: hard most 2", 15, api.ErrSyntax},
		{"a: hard most 2, all", 15, api.ErrSyntax},
		{"a: hard most2 all", 9, api.ErrSyntax},
		{"a: hard most 2all", 14, api.ErrSyntax},
		{"a: hard avoid all", 18, api.ErrSyntax},
		{"a: hard avoid all,", 19, api.ErrSyntax},
		{"a: hard avoid all [Mo 1]", 19, api.ErrSyntax},
		{"a: hard avoid all, all", 20, api.ErrSyntax},
		{"a: hard avoid [Mo 1]", 15, api.ErrSyntax},
		{"a: hard avoid all, [Mo 1", 20, api.ErrSyntax},
		{"a: hard avoid all, [", 20, api.ErrSyntax},
		{"a: hard avoid all, [Mo 1 # ]", 20, api.ErrSyntax},
		{"a: hard avoid all, [#Mo 1]", 20, api.ErrSyntax},
		{"a: hard avoid all, [$", 20, api.ErrSyntax},
		{"a: hard avoid all, [Mo 1] x", 27, api.ErrSyntax},
		{"a: hard avoid all, [Mo 1] ]", 27, api.ErrSyntax},
		{"a: hard avoid all, [Mo 1]]", 26, api.ErrSyntax},
		{"a: hard avoid all, [Mo 1], [Mo 2]", 26, api.ErrSyntax},
		{"a: hard avoid all, [Mo 1];", 26, api.ErrCharacter},
		{"a: hard avoid all, ]Mo 1]", 20, api.ErrSyntax},
		{"a: hard avoid all; [Mo 1]", 18, api.ErrCharacter},
		{"a: hard rooms all, (R1)", 20, api.ErrSyntax},
		{"a: hard rooms all, R1", 20, api.ErrSyntax},
		{"a: hard rooms all, [R1", 20, api.ErrSyntax},
		{"a: hard rooms all, [?] $", 24, api.ErrCharacter},
		{"a: hard rooms all, [?] x", 24, api.ErrSyntax},
		{"[a]: hard apart all", 1, api.ErrSyntax},
		{"[$", 1, api.ErrSyntax},
		{"a: hard apart [$]", 15, api.ErrSyntax},
		{"a $ b", 3, api.ErrCharacter},
		{"a b $", 3, api.ErrSyntax},
		{"$ a b", 1, api.ErrCharacter},
		{"a$: hard apart all", 2, api.ErrCharacter},
		{"a: 1$ apart all", 5, api.ErrCharacter},
		{"a: 0$ apart all", 4, api.ErrSyntax},
		{"a: hard near $", 9, api.ErrSyntax},
		{"a: hard apart all $", 19, api.ErrCharacter},
		{"a: hard apart all x $", 19, api.ErrSyntax},
		{"a: hard apart all\r", 18, api.ErrCharacter},
		{"a: hard apart\r all", 14, api.ErrCharacter},
		{"\r", 1, api.ErrCharacter},
		{"a: hard apart class \u00e9", 21, api.ErrCharacter},
		{"a: hard apart class x\u00e9", 22, api.ErrCharacter},
		{"\u00e9\u00e9: hard apart all", 1, api.ErrCharacter},
		{"a: hard apart\u00a0all", 14, api.ErrCharacter},
		{"a: hard apart all\u2003", 18, api.ErrCharacter},
		{"a: 1001 apart all $", 19, api.ErrCharacter},
		{"a: 1001 apart all all", 19, api.ErrSyntax},
	} {
		checkFault(t, x.line, x.column, x.e)
	}
}

// P14.2: the errors of a rule that follows the grammar have no column.
func TestProblemsRule(t *testing.T) {
	deep := strings.Repeat("not ", 8) + "all"
	for line, e := range map[string]api.Errno{
		"a: 1001 apart all":                                 api.ErrRange,
		"a: 9999 apart all":                                 api.ErrRange,
		"a: 9999 apart " + deep:                             api.ErrRange,
		"a: 1 apart " + deep:                                api.ErrForm,
		"a: 1 most 25 " + deep:                              api.ErrForm,
		"a: 1 before " + deep + ", all":                     api.ErrForm,
		"a: 1 before all, " + deep:                          api.ErrForm,
		"a: 1 most 25 all":                                  api.ErrRange,
		"a: 1 gap 9999 all":                                 api.ErrRange,
		"a: 1 span 25 all":                                  api.ErrRange,
		"a: 1 apart all" + strings.Repeat(" or all", 63):    api.ErrForm,
		"a: 1 apart all" + strings.Repeat(" and all", 5000): api.ErrForm,
		"a: 1 avoid " + deep + ", [?]":                      api.ErrForm,
		"a: 1 avoid " + deep + ", [Sa 1]":                   api.ErrTime,
		"a: 1 rooms " + deep + ", []":                       api.ErrForm,
	} {
		checkFault(t, line, 0, e)
	}
	checkSelection(t, strings.Repeat("not ", 7)+"all", notTimes(7, everything()))
	checkSelection(t, "all"+strings.Repeat(" or all", 62), either(slices.Repeat([]api.Select{everything()}, 63)...))
	checkSelection(t, strings.Repeat("(", 20000)+"all"+strings.Repeat(")", 20000), everything())
}

// R1: a nesting as deep as a text can have.
func TestProblemsDeep(t *testing.T) {
	const before = "a: 1 apart "
	most := api.MaxFile - len(before)
	checkParse(t, before+strings.Repeat("(", most), nil, problem(1, api.MaxFile+1, api.ErrSyntax))
	checkParse(t, before+strings.Repeat("(", most-1)+"$", nil, problem(1, api.MaxFile, api.ErrCharacter))
	checkParse(t, before+strings.Repeat("not ", most/4), nil, problem(1, len(before)+most/4*4+1, api.ErrSyntax))
	checkParse(t, before+strings.Repeat("not ", most/4-1)+"all", nil, problem(1, 0, api.ErrForm))
	checkParse(t, before+strings.Repeat("not(", 10000)+"all"+strings.Repeat(")", 10000), nil, problem(1, 0, api.ErrForm))
	checkParse(t, before+strings.Repeat("(all or ", 6000)+"all"+strings.Repeat(")", 6000), nil, problem(1, 0, api.ErrForm))
}

// P14.2: rules with names of rules that were read, and with those of lines that were left out.
func TestProblemsDuplicate(t *testing.T) {
	first := api.Rule{Name: "a", Weight: 1, Kind: api.RuleApart, First: everything(), Line: 1}
	other := api.Rule{Name: "A", Kind: api.RuleMost, N: 1, First: everything(), Line: 4}
	checkParse(t, "a: 1 apart all\na: 1 apart all\na: hard most 2 staff x\nA: hard most 1 all\na: 2 apart all", []api.Rule{first, other},
		problem(2, 0, api.ErrDuplicate), problem(3, 0, api.ErrDuplicate), problem(5, 0, api.ErrDuplicate))
	first.Line = 5
	checkParse(t, "a: 1001 apart all\na: 1 apart\na: 1 rooms all, [?]\na: 1 apart $\na: 1 apart all\na: 1001 apart all\na: 1 apart\n#\na: 1 rooms all, [?]\na: 1 avoid all, [Sa 1]", []api.Rule{first},
		problem(1, 0, api.ErrRange), problem(2, 11, api.ErrSyntax), problem(3, 0, api.ErrCode), problem(4, 12, api.ErrCharacter),
		problem(6, 0, api.ErrRange), problem(7, 11, api.ErrSyntax), problem(9, 0, api.ErrCode), problem(10, 0, api.ErrTime))
}

// P14.2: more rules than are read.
func TestProblemsSize(t *testing.T) {
	var text strings.Builder
	var rules []api.Rule
	for i := range 48 {
		name := fmt.Sprintf("r%d", i)
		text.WriteString(name + ": 1 apart all\n$\n")
		rules = append(rules, api.Rule{Name: name, Weight: 1, Kind: api.RuleApart, First: everything(), Line: 2*i + 1})
	}
	var problems []api.Problem
	for i := range 48 {
		problems = append(problems, problem(2*i+2, 1, api.ErrCharacter))
	}
	checkParse(t, text.String(), rules, problems...)
	text.WriteString("x: 1 apart all\nr47: 1 apart all\n\nx: 1001 apart all\nx: 1 apart\ny: 1 apart all\nx: 1 apart all # \n")
	problems = append(problems, problem(97, 0, api.ErrSize), problem(98, 0, api.ErrDuplicate), problem(100, 0, api.ErrRange), problem(101, 11, api.ErrSyntax), problem(102, 0, api.ErrSize), problem(103, 0, api.ErrSize))
	checkParse(t, text.String(), rules, problems...)
}

// T7: whatever becomes of a byte of a line, the other lines are not harmed.
func TestProblemsDamage(t *testing.T) {
	lines := []string{"first: 1 before all, staff x", "second: hard avoid not (class x or all), [Mo 1; Tu 3-4 odd] # x", "third: 7 rooms feature lab and all, [R1..R3;X]", "last: 2 gap 3 all"}
	whole, _ := Parse(strings.Join(lines, "\n"), grid(), tenWeeks)
	for i, line := range lines {
		for at := range line {
			for c := range 256 {
				damaged := slices.Clone(lines)
				damaged[i] = line[:at] + string([]byte{byte(c)}) + line[at+1:]
				l, p := Parse(strings.Join(damaged, "\n"), grid(), tenWeeks)
				more := strings.Count(damaged[i], "\n")
				for k, u := range whole {
					if k > i {
						u.Line += more
					}
					if k != i && !slices.ContainsFunc(l, func(x api.Rule) bool { return equalRules(x, u) }) {
						t.Errorf("%q harmed the line %d: %v", damaged[i], k, l)
					}
				}
				if slices.ContainsFunc(p, func(p api.Problem) bool { return p.Line < i+1 || p.Line > i+1+more }) {
					t.Errorf("%q: the problems %v", damaged[i], p)
				}
			}
		}
	}
}
