package timegrid

import (
	"regexp"
	"slices"
	"strconv"
	"strings"
	"testing"

	"timetable/api"
	"timetable/weekset"
)

// week are the names of the days, in their order.
var week = []string{"Mo", "Tu", "We", "Th", "Fr", "Sa", "Su"}

func checkParse(t *testing.T, g api.Grid, weeks int, s string, want api.Time, e api.Errno) {
	t.Helper()
	if x, err := Parse(g, weeks, s); x != want || err != e {
		t.Errorf("Parse(%v, %d, %.60q) = %v, %d; want %v, %d", g, weeks, s, x, err, want, e)
	}
}

// checkWrong checks the error of a text, for the usual grid and ten weeks.
func checkWrong(t *testing.T, s string, e api.Errno) {
	t.Helper()
	checkParse(t, grid(), 10, s, api.Time{}, e)
}

// P6.3: times with and without weeks.
func TestParse(t *testing.T) {
	for _, x := range []struct {
		s    string
		want api.Time
	}{
		{"Mo 3-4 odd", api.Time{Weeks: 341, Day: 0, Start: 2, Length: 2}},
		{"Mo 3-4", api.Time{Weeks: 1023, Day: 0, Start: 2, Length: 2}},
		{"Tu 1", api.Time{Weeks: 1023, Day: 1, Start: 0, Length: 1}},
		{"We 10", api.Time{Weeks: 1023, Day: 2, Start: 9, Length: 1}},
		{"Th 1-10", api.Time{Weeks: 1023, Day: 3, Start: 0, Length: 10}},
		{"Fr 9-10 1-3,7", api.Time{Weeks: 71, Day: 4, Start: 8, Length: 2}},
		{"Fr 5-5 10", api.Time{Weeks: 512, Day: 4, Start: 4, Length: 1}},
		{"Mo 1 all", api.Time{Weeks: 1023, Day: 0, Start: 0, Length: 1}},
		{"Mo 1 second,even", api.Time{Weeks: 0b1111101010, Day: 0, Start: 0, Length: 1}},
	} {
		checkParse(t, grid(), 10, x.s, x.want, api.OK)
	}
	for weeks := 1; weeks <= 20; weeks++ {
		checkParse(t, grid(), weeks, "Mo 1", api.Time{Weeks: 1<<weeks - 1, Length: 1}, api.OK)
		checkParse(t, grid(), weeks, "Mo 1 "+strconv.Itoa(weeks), api.Time{Weeks: 1 << (weeks - 1), Length: 1}, api.OK)
	}
}

// P6.3: all days and pairs of slots, within several grids and beyond.
func TestParseSlots(t *testing.T) {
	for _, g := range []api.Grid{grid(), wideGrid(), {Days: 1, Slots: 1, Begin: 1435, Minutes: 5}, {Days: 6, Slots: 12, Begin: 0, Minutes: 120}} {
		for day, name := range week {
			for from := 1; from <= 99; from++ {
				want, e := api.Time{}, api.ErrTime
				if day < g.Days && from <= g.Slots {
					want, e = api.Time{Weeks: 7, Day: day, Start: from - 1, Length: 1}, api.OK
				}
				s := name + " " + strconv.Itoa(from)
				checkParse(t, g, 3, s, want, e)
				for to := 1; to <= 99; to++ {
					want, e := api.Time{}, api.ErrTime
					if day < g.Days && from <= to && to <= g.Slots {
						want, e = api.Time{Weeks: 7, Day: day, Start: from - 1, Length: to - from + 1}, api.OK
					}
					checkParse(t, g, 3, s+"-"+strconv.Itoa(to), want, e)
				}
			}
		}
	}
}

// P6.3: what is no name of a day.
func TestParseDay(t *testing.T) {
	for _, name := range []string{
		"", "M", "o", "MO", "mo", "mO", "oM", "Mon", "Monday", "Mo.", "MoTu", "Mo,Tu", "\tMo", "Mo\t", "Mo\n", "Mo\x00", "0", "1", "M\u00f6", "\xff", "\xffMo", "all", "Di", "Mi", "Do", "So",
	} {
		checkWrong(t, name+" 3", api.ErrForm)
		checkWrong(t, name+" 3-4", api.ErrForm)
		checkWrong(t, name+" 3 odd", api.ErrForm)
		checkWrong(t, name, api.ErrForm)
	}
	for i := range 256 {
		for k := range 256 {
			name := string([]byte{byte(i), byte(k)})
			if day := slices.Index(week, name); day >= 0 {
				checkParse(t, wideGrid(), 1, name+" 2", api.Time{Weeks: 1, Day: day, Start: 1, Length: 1}, api.OK)
			} else {
				checkParse(t, wideGrid(), 1, name+" 2", api.Time{}, api.ErrForm)
			}
		}
	}
}

// P6.3: what are no slots.
func TestParseNumbers(t *testing.T) {
	for _, slots := range []string{
		"", "-", "--", "0", "00", "01", "09", "000", "100", "010", "001", "3-", "-3", "3--4", "3-4-", "-3-4", "3-4-5", "3-0", "0-3", "0-0", "03-4", "3-04", "3-100", "100-101",
		"+3", "3-+4", "3,4", "3;4", "3..4", "3_", "1_0", "3.", "3.0", "0x3", "3e0", "x", "3x", "x3", "3:", ":3", "3/", "/3", "odd", "all", "3-all", "\t3", "3\t", "3\n", "3\x00", "\u0663", "3\u20134", "\u22123", "3\xff", "\xff3",
		strings.Repeat("1", 1000), strings.Repeat("1-", 1000), "12345678901234567890123", "18446744073709551617",
	} {
		checkWrong(t, "Mo "+slots, api.ErrForm)
		checkWrong(t, "Mo "+slots+" odd", api.ErrForm)
	}
}

// P6.3: spaces at wrong places, and wrong numbers of words.
func TestParseWords(t *testing.T) {
	for _, s := range []string{
		"", " ", "  ", "   ", "Mo", "Mo ", " Mo", "3", " 3", "odd", "Mo3", "Mo\t3", "Mo\u00a03", "Mo,3", "Mo-3",
		"Mo  3", " Mo 3", "Mo 3 ", "Mo 3  ", " Mo 3 ", "Mo 3 odd ", "Mo 3  odd", "Mo  3 odd", " Mo 3 odd", "Mo  odd", "Mo odd", "Mo odd 3",
		"Mo 3 odd odd", "Mo 3 4 5", "Mo 3 1, 2", "Mo 3 1 - 2", "Mo 3 - 4", "Mo 3 -4", "Mo 3- 4", "3 Mo", "odd Mo 3", "Mo Mo 3", "Mo 3 Tu 4", "Mo 3;Tu 4",
		"Mo 3 \n\n 4", strings.Repeat(" ", 1<<20), strings.Repeat("Mo ", 1<<18), strings.Repeat("Mo 3 ", 1<<18),
	} {
		checkWrong(t, s, api.ErrForm)
	}
}

// P6.3: errors of the set of weeks.
func TestParseWeeks(t *testing.T) {
	for _, set := range []string{"x", "Odd", ",", "1,", "0", "01", "1-", "100", "11", "1-11", "3-2", "99", "1,11,x", "x,11", "\t1", "odd\t", "odd\n", "1;2", "Mo", "even,second"} {
		_, e := weekset.Parse(set, 10)
		if (e == api.OK) != (set == "even,second") {
			t.Errorf("weekset.Parse(%q): %d", set, e)
		}
		if e != api.OK {
			checkWrong(t, "Mo 3 "+set, e)
			checkWrong(t, "Fr 9-10 "+set, e)
		}
	}
	checkWrong(t, "Mo 3 x", api.ErrForm)
	checkWrong(t, "Mo 3 11", api.ErrRange)
	checkParse(t, grid(), 1, "Mo 3 even", api.Time{}, api.ErrEmpty)
	checkParse(t, grid(), 1, "Mo 3 second,even", api.Time{}, api.ErrEmpty)
}

// P6.3: the first of several errors is returned.
func TestParseOrder(t *testing.T) {
	for _, x := range []struct {
		s string
		e api.Errno
	}{
		{"Sa 3", api.ErrTime},
		{"Su 11", api.ErrTime},
		{"Mo 11", api.ErrTime},
		{"Mo 4-3", api.ErrTime},
		{"Mo 4-11", api.ErrTime},
		{"Mo 11-4", api.ErrTime},
		{"Mo 11-12", api.ErrTime},
		{"Mo 99", api.ErrTime},
		{"Sa 03", api.ErrForm},
		{"Sa 3-x", api.ErrForm},
		{"Sa 3 odd odd", api.ErrForm},
		{"Sa 3 ", api.ErrForm},
		{"Mo 11 ", api.ErrForm},
		{"Mo 4-3  odd", api.ErrForm},
		{"mo 11", api.ErrForm},
		{"xx 4-3", api.ErrForm},
		{"Sa 3 x", api.ErrTime},
		{"Mo 11 x", api.ErrTime},
		{"Mo 4-3 x", api.ErrTime},
		{"Mo 11 11", api.ErrTime},
		{"Mo 99-100 x", api.ErrForm},
		{"mo 3 11", api.ErrForm},
	} {
		checkWrong(t, x.s, x.e)
	}
	for _, s := range []string{"Mo 3", "Mo 3 odd", "Mo", "", "Sa 3", "Mo 99", "Mo 3 x", "Mo 3 11"} {
		for _, g := range wrongGrids() {
			checkParse(t, g, 10, s, api.Time{}, api.ErrInvalid)
		}
		for _, weeks := range wrongWeeks() {
			checkParse(t, grid(), weeks, s, api.Time{}, api.ErrInvalid)
		}
	}
}

var timeForm = regexp.MustCompile(`^(Mo|Tu|We|Th|Fr|Sa|Su) ([1-9][0-9]?)(?:-([1-9][0-9]?))?(?: ([^ ]+))?$`)

// parsed is what P6.3 says of a valid grid and number of weeks, by another way.
func parsed(g api.Grid, weeks int, s string) (api.Time, api.Errno) {
	m := timeForm.FindStringSubmatch(s)
	if m == nil {
		return api.Time{}, api.ErrForm
	}
	day := slices.Index(week, m[1])
	from, _ := strconv.Atoi(m[2])
	to := from
	if m[3] != "" {
		to, _ = strconv.Atoi(m[3])
	}
	if day >= g.Days || from > g.Slots || to > g.Slots || from > to {
		return api.Time{}, api.ErrTime
	}
	set := 1<<weeks - 1
	if m[4] != "" {
		var e api.Errno
		if set, e = weekset.Parse(m[4], weeks); e != api.OK {
			return api.Time{}, e
		}
	}
	return api.Time{Weeks: set, Day: day, Start: from - 1, Length: to + 1 - from}, api.OK
}

// P6.3: all texts of up to four of some parts, alone and behind beginnings.
func TestParseShort(t *testing.T) {
	g := api.Grid{Days: 3, Slots: 3, Begin: 0, Minutes: 5}
	parts := []string{"Mo", "We", "Su", " ", "-", "1", "2", "even", "0"}
	var check func(s string, n int)
	check = func(s string, n int) {
		for _, weeks := range []int{1, 2, 20} {
			want, e := parsed(g, weeks, s)
			checkParse(t, g, weeks, s, want, e)
		}
		if n == 0 {
			return
		}
		for _, p := range parts {
			check(s+p, n-1)
		}
	}
	check("", 4)
	for _, s := range []string{"Mo 1", "Su 2", "Mo 1-", "We 2-", "Mo 1 ", "We 1-2 "} {
		check(s, 4)
	}
}

func checkFormat(t *testing.T, g api.Grid, weeks int, x api.Time, want string, e api.Errno) {
	t.Helper()
	if s, err := Format(g, weeks, x); s != want || err != e {
		t.Errorf("Format(%v, %d, %v) = %q, %d; want %q, %d", g, weeks, x, s, err, want, e)
	}
}

// P6.3: texts of times.
func TestFormat(t *testing.T) {
	for _, x := range []struct {
		weeks int
		t     api.Time
		want  string
	}{
		{10, api.Time{Weeks: 341, Day: 0, Start: 2, Length: 2}, "Mo 3-4 odd"},
		{10, api.Time{Weeks: 1023, Day: 0, Start: 2, Length: 2}, "Mo 3-4"},
		{10, api.Time{Weeks: 1023, Day: 6, Start: 23, Length: 1}, "Su 24"},
		{10, api.Time{Weeks: 1023, Day: 1, Start: 0, Length: 24}, "Tu 1-24"},
		{10, api.Time{Weeks: 71, Day: 2, Start: 8, Length: 1}, "We 9 1-3,7"},
		{10, api.Time{Weeks: 31, Day: 3, Start: 8, Length: 2}, "Th 9-10 first"},
		{10, api.Time{Weeks: 992, Day: 4, Start: 0, Length: 1}, "Fr 1 second"},
		{10, api.Time{Weeks: 511, Day: 5, Start: 0, Length: 2}, "Sa 1-2 1-9"},
		{11, api.Time{Weeks: 1023, Day: 5, Start: 0, Length: 2}, "Sa 1-2 1-10"},
		{1, api.Time{Weeks: 1, Day: 5, Start: 0, Length: 1}, "Sa 1"},
		{2, api.Time{Weeks: 1, Day: 5, Start: 0, Length: 1}, "Sa 1 odd"},
		{20, api.Time{Weeks: 1<<20 - 1, Day: 5, Start: 0, Length: 1}, "Sa 1"},
	} {
		checkFormat(t, wideGrid(), x.weeks, x.t, x.want, api.OK)
	}
}

// P6.3 and the consequence: all places of the week in some sets of weeks, and all sets of a short term.
func TestFormatAndParse(t *testing.T) {
	check := func(weeks int, x api.Time) {
		t.Helper()
		want := week[x.Day] + " " + strconv.Itoa(x.Start+1)
		if x.Length > 1 {
			want += "-" + strconv.Itoa(x.Start+x.Length)
		}
		if x.Weeks != 1<<weeks-1 {
			set, _ := weekset.Format(x.Weeks, weeks)
			want += " " + set
		}
		checkFormat(t, wideGrid(), weeks, x, want, api.OK)
		checkParse(t, wideGrid(), weeks, want, x, api.OK)
	}
	for day := range 7 {
		for _, x := range stretches(1, day) {
			for _, x.Weeks = range []int{1, 2, 0b101, 0b1110, 0b111111, 1<<15 - 1} {
				check(15, x)
			}
		}
	}
	for weeks := 1; weeks <= 12; weeks++ {
		for set := 1; set < 1<<weeks; set++ {
			check(weeks, api.Time{Weeks: set, Day: set % 7, Start: set % 11, Length: 1 + set%13})
		}
	}
}

// P6.3: errors of Format are those of Fits.
func TestFormatErrors(t *testing.T) {
	good := api.Time{Weeks: 1, Length: 1}
	for _, x := range append(unsound(), api.Time{Weeks: 1, Day: 5, Length: 1}, api.Time{Weeks: 1, Start: 10, Length: 1}, api.Time{Weeks: 1, Start: 9, Length: 2}, api.Time{Weeks: 1024, Length: 1}) {
		checkFormat(t, grid(), 10, x, "", api.ErrTime)
		checkFormat(t, api.Grid{}, 10, x, "", api.ErrInvalid)
		checkFormat(t, grid(), 0, x, "", api.ErrInvalid)
	}
	for _, g := range wrongGrids() {
		checkFormat(t, g, 10, good, "", api.ErrInvalid)
	}
	for _, weeks := range wrongWeeks() {
		checkFormat(t, grid(), weeks, good, "", api.ErrInvalid)
	}
}
