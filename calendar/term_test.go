package calendar

import (
	"math"
	"slices"
	"testing"

	"timetable/api"
)

// lastMonday is the last one with which a week of a term can begin: MaxDay is a Thursday.
const lastMonday = 36514

// daysFrom returns so many days that follow each other.
func daysFrom(first, n int) []int {
	var l []int
	for i := range n {
		l = append(l, first+i)
	}
	return l
}

// term returns a term that begins on the day 2, the first Monday.
func term(weeks int, holidays ...int) api.Term {
	return api.Term{First: 2, Weeks: weeks, Holidays: holidays}
}

func checkValid(t *testing.T, x api.Term, want api.Errno) {
	t.Helper()
	before := slices.Clone(x.Holidays)
	if e := Valid(x); e != want {
		t.Errorf("Valid(%v) = %d, want %d", x, e, want)
	}
	if !slices.Equal(x.Holidays, before) {
		t.Errorf("Valid changed %v to %v", before, x.Holidays)
	}
}

// P4.3: terms without errors.
func TestValid(t *testing.T) {
	for _, x := range []api.Term{
		term(1),
		{First: 2, Weeks: 1, Holidays: []int{}},
		term(20),
		term(1, 2),
		term(1, 8),
		term(1, daysFrom(2, 7)...),
		term(20, 2, 9, 10, 141),
		term(20, daysFrom(78, 64)...),
		{First: 9, Weeks: 10},
		{First: lastMonday, Weeks: 1},
		{First: lastMonday, Weeks: 1, Holidays: []int{lastMonday, lastMonday + 6}},
		{First: lastMonday - 7*19, Weeks: 20},
		{First: lastMonday - 7, Weeks: 2},
	} {
		checkValid(t, x, api.OK)
	}
}

// P4.3: First is a day and a Monday.
func TestValidFirst(t *testing.T) {
	for first := range api.MaxDay + 1 {
		want := api.OK
		if goDate(first).Weekday() != 1 || first > lastMonday {
			want = api.ErrDate
		}
		checkValid(t, api.Term{First: first, Weeks: 1}, want)
	}
	for _, first := range extremes {
		checkValid(t, api.Term{First: first, Weeks: 1}, api.ErrDate)
	}
	for _, first := range []int{-5, -12, 2 - 7<<32, 36528, 2 + 7<<32} { // they would be Mondays
		checkValid(t, api.Term{First: first, Weeks: 1}, api.ErrDate)
	}
}

// P4.3: Weeks, and the last day.
func TestValidWeeks(t *testing.T) {
	for weeks := -3; weeks <= 24; weeks++ {
		want := api.OK
		if weeks < 1 || weeks > 20 {
			want = api.ErrRange
		}
		checkValid(t, term(weeks), want)
		if want == api.OK {
			last := lastMonday - 7*(weeks-1)
			checkValid(t, api.Term{First: last, Weeks: weeks}, api.OK)
			checkValid(t, api.Term{First: last + 7, Weeks: weeks}, api.ErrDate)
		}
	}
	for _, weeks := range extremes {
		checkValid(t, term(weeks), api.ErrRange)
		checkValid(t, api.Term{First: lastMonday + 7, Weeks: weeks}, api.ErrRange)
	}
}

// P4.3: Holidays.
func TestValidHolidays(t *testing.T) {
	for _, x := range []struct {
		holidays []int
		e        api.Errno
	}{
		{daysFrom(2, 65), api.ErrSize},
		{make([]int, 65), api.ErrSize},
		{make([]int, 1<<16), api.ErrSize},
		{[]int{1}, api.ErrDate},
		{[]int{0}, api.ErrDate},
		{[]int{72}, api.ErrDate},
		{[]int{3, 72}, api.ErrDate},
		{[]int{2, 2}, api.ErrDuplicate},
		{[]int{3, 2}, api.ErrDuplicate},
		{[]int{2, 71, 70}, api.ErrDuplicate},
		{[]int{2, 3, 2}, api.ErrDuplicate},
		{[]int{2, 2, 1}, api.ErrDuplicate},
		{[]int{3, 2, 72}, api.ErrDuplicate},
		{[]int{3, 1, 3}, api.ErrDate},
		{[]int{3, 1, 1}, api.ErrDate},
		{[]int{72, 2, 2}, api.ErrDate},
		{[]int{71, 72, 71}, api.ErrDate},
	} {
		checkValid(t, term(10, x.holidays...), x.e)
	}
	for _, day := range extremes {
		checkValid(t, term(10, day), api.ErrDate)
		checkValid(t, term(10, 5, day), api.ErrDate)
		checkValid(t, term(10, day, day), api.ErrDate)
	}
	checkValid(t, api.Term{First: lastMonday, Weeks: 1, Holidays: []int{lastMonday + 7}}, api.ErrDate)
	checkValid(t, api.Term{First: lastMonday, Weeks: 1, Holidays: []int{api.MaxDay}}, api.ErrDate)
	checkValid(t, api.Term{First: lastMonday, Weeks: 1, Holidays: []int{lastMonday - 1}}, api.ErrDate)
}

// P4.3: which error is returned if there are several.
func TestValidOrder(t *testing.T) {
	many, before, twice := make([]int, 65), []int{1}, []int{3, 3}
	for _, x := range []struct {
		t api.Term
		e api.Errno
	}{
		{api.Term{}, api.ErrDate},
		{api.Term{First: 3, Weeks: 0, Holidays: many}, api.ErrDate},
		{api.Term{First: -5, Weeks: 21, Holidays: twice}, api.ErrDate},
		{api.Term{First: 2, Weeks: 0, Holidays: many}, api.ErrRange},
		{api.Term{First: 2, Weeks: -1, Holidays: before}, api.ErrRange},
		{api.Term{First: 2, Weeks: 21, Holidays: twice}, api.ErrRange},
		{api.Term{First: lastMonday + 7, Weeks: 0}, api.ErrRange},
		{api.Term{First: lastMonday + 7, Weeks: 21}, api.ErrRange},
		{api.Term{First: lastMonday + 7, Weeks: 1, Holidays: many}, api.ErrDate},
		{api.Term{First: lastMonday, Weeks: 2, Holidays: many}, api.ErrDate},
		{api.Term{First: lastMonday + 7, Weeks: 1, Holidays: []int{lastMonday + 7, lastMonday + 7}}, api.ErrDate},
		{api.Term{First: 2, Weeks: 1, Holidays: many}, api.ErrSize},
		{api.Term{First: 2, Weeks: 20, Holidays: append(daysFrom(2, 64), 2)}, api.ErrSize},
	} {
		checkValid(t, x.t, x.e)
	}
}

// invalid are terms with each of the errors.
func invalid() []api.Term {
	return []api.Term{
		{},
		{First: 3, Weeks: 3},
		{First: -5, Weeks: 3},
		{First: 36528, Weeks: 3},
		{First: lastMonday + 7, Weeks: 1},
		{First: lastMonday, Weeks: 2},
		{First: math.MinInt, Weeks: math.MinInt},
		{First: math.MaxInt, Weeks: math.MaxInt},
		term(0),
		term(-1),
		term(21),
		term(math.MaxInt),
		term(math.MinInt),
		term(20, daysFrom(2, 65)...),
		term(3, 1),
		term(3, 23),
		term(3, 20, 19),
		term(3, 20, 20),
	}
}

// valid are terms with many and few weeks and holidays.
func valid() []api.Term {
	return []api.Term{
		term(1),
		term(1, 8),
		term(1, daysFrom(2, 7)...),
		term(3, 9),
		term(3, 2, 12, 22),
		term(20),
		term(20, daysFrom(2, 64)...),
		term(20, 2, 10, 18, 26, 34, 42, 50, 141),
		{First: 9753, Weeks: 15, Holidays: []int{9760, 9761, 9803}},
		{First: lastMonday, Weeks: 1},
		{First: lastMonday - 7*19, Weeks: 20, Holidays: []int{lastMonday - 7*19, lastMonday + 6}},
	}
}

func checkAt(t *testing.T, x api.Term, week, weekday, want int, ok bool) {
	t.Helper()
	if day, is := At(x, week, weekday); day != want || is != ok {
		t.Errorf("At(%v, %d, %d) = %d, %v; want %d, %v", x, week, weekday, day, is, want, ok)
	}
}

func checkWhere(t *testing.T, x api.Term, day, week, weekday int, ok bool) {
	t.Helper()
	if w, d, is := Where(x, day); w != week || d != weekday || is != ok {
		t.Errorf("Where(%v, %d) = %d, %d, %v; want %d, %d, %v", x, day, w, d, is, week, weekday, ok)
	}
}

// P4.4 and the second consequence: all days of terms, and those about them.
func TestAtAndWhere(t *testing.T) {
	for _, x := range valid() {
		checkValid(t, x, api.OK)
		day := x.First
		for week := 1; week <= x.Weeks; week++ {
			for weekday := range 7 {
				if slices.Contains(x.Holidays, day) {
					checkAt(t, x, week, weekday, 0, false)
					checkWhere(t, x, day, 0, 0, false)
				} else {
					checkAt(t, x, week, weekday, day, true)
					checkWhere(t, x, day, week, weekday, true)
				}
				day++
			}
		}
		for i := range 15 {
			checkWhere(t, x, x.First-1-i, 0, 0, false)
			checkWhere(t, x, day+i, 0, 0, false)
		}
	}
}

// P4.4: what is no week, no weekday and no day of a term.
func TestOutside(t *testing.T) {
	for _, x := range valid() {
		for _, n := range append([]int{0, x.Weeks + 1, 21}, extremes...) {
			for weekday := range 7 {
				checkAt(t, x, n, weekday, 0, false)
			}
		}
		for _, n := range append([]int{7, 8, 13, 14}, extremes...) {
			for week := 0; week <= x.Weeks+1; week++ {
				checkAt(t, x, week, n, 0, false)
			}
			checkAt(t, x, n, n, 0, false)
		}
		for _, n := range extremes {
			checkWhere(t, x, n, 0, 0, false)
		}
	}
	checkAt(t, term(3), 2, -1, 0, false) // it would be the Sunday of week 1
	checkAt(t, term(3), 1, 7, 0, false)
	checkAt(t, term(3), 0, 6, 0, false)
}

// P4.4: terms that are not valid have no days.
func TestInvalidTerms(t *testing.T) {
	for _, x := range invalid() {
		if Valid(x) == api.OK {
			t.Errorf("%v is valid", x)
		}
		for week := -1; week <= 22; week++ {
			for weekday := -1; weekday <= 7; weekday++ {
				checkAt(t, x, week, weekday, 0, false)
			}
		}
		for _, day := range append(daysFrom(0, 200), daysFrom(api.MaxDay-200, 201)...) {
			checkWhere(t, x, day, 0, 0, false)
		}
		for _, n := range extremes {
			checkAt(t, x, n, n, 0, false)
			checkWhere(t, x, n, 0, 0, false)
		}
		checkWhere(t, x, x.First, 0, 0, false)
		for _, weeks := range []int{1, 7, math.MaxInt} {
			checkDays(t, x, api.Time{Weeks: weeks, Day: 1, Length: 1})
		}
	}
}

func checkDays(t *testing.T, x api.Term, tm api.Time, want ...int) {
	t.Helper()
	before := slices.Clone(x.Holidays)
	if got := Days(x, tm); !slices.Equal(got, want) {
		t.Errorf("Days(%v, %v) = %v, want %v", x, tm, got, want)
	}
	if !slices.Equal(x.Holidays, before) {
		t.Errorf("Days changed %v to %v", before, x.Holidays)
	}
}

// P4.4: Days leaves out weeks that are not of the time, and holidays.
func TestDays(t *testing.T) {
	x := term(5, 9, 17)
	for weeks, want := range map[int][]int{
		0b0:                nil,
		0b1:                {2},
		0b10:               nil,
		0b100:              {16},
		0b111:              {2, 16},
		0b10101:            {2, 16, 30},
		0b01010:            {23},
		0b11111:            {2, 16, 23, 30},
		0b100000:           nil,
		0b110000:           {30},
		1<<19 | 1:          {2},
		1<<20 | 1:          {2},
		1<<32 | 1:          {2},
		1<<62 | 1:          {2},
		1 << 62:            nil,
		math.MaxInt:        {2, 16, 23, 30},
		math.MaxInt &^ 1:   {16, 23, 30},
		math.MaxInt &^ 127: nil,
		-1:                 nil,
		-2:                 nil,
		-31:                nil,
		math.MinInt:        nil,
		math.MinInt | 31:   nil,
	} {
		checkDays(t, x, api.Time{Weeks: weeks}, want...)
		checkDays(t, x, api.Time{Weeks: weeks, Start: -9, Length: math.MaxInt}, want...)
	}
	checkDays(t, x, api.Time{Weeks: 0b11111, Day: 1}, 3, 10, 24, 31)
	checkDays(t, x, api.Time{Weeks: 0b11111, Day: 6}, 8, 15, 22, 29, 36)
	checkDays(t, x, api.Time{Weeks: 0b11111, Day: 7})
	checkDays(t, x, api.Time{Weeks: 0b11111, Day: -1})
	for _, n := range extremes {
		checkDays(t, x, api.Time{Weeks: 0b11111, Day: n})
	}
}

// P4.4: Days is what At returns, for each set of weeks of some terms, each weekday, and with bits behind the last week.
func TestDaysOfAt(t *testing.T) {
	for _, x := range valid() {
		for weekday := -1; weekday <= 7; weekday++ {
			for _, weeks := range []int{0, 1, 1 << 19, 1<<20 - 1, 0b10101010101010101010, 0b01010101010101010101, 0b1001100000000000001, 1<<40 - 1, math.MaxInt} {
				var want []int
				for week := 1; week <= 63; week++ {
					if day, ok := At(x, week, weekday); ok && weeks>>(week-1)&1 == 1 {
						want = append(want, day)
					}
				}
				checkDays(t, x, api.Time{Weeks: weeks, Day: weekday}, want...)
				checkDays(t, x, api.Time{Weeks: weeks | math.MinInt, Day: weekday})
			}
		}
	}
}

// P4.4: a term of the greatest length.
func TestDaysLongest(t *testing.T) {
	var want []int
	for week := range 20 {
		want = append(want, lastMonday-7*19+7*week+6)
	}
	checkDays(t, api.Term{First: lastMonday - 7*19, Weeks: 20}, api.Time{Weeks: 1<<20 - 1, Day: 6}, want...)
}

// R2: results of Days share no memory.
func TestDaysMemory(t *testing.T) {
	x, tm := term(3, 9), api.Time{Weeks: 7}
	a, b := Days(x, tm), Days(x, tm)
	a[0] = -1
	if !slices.Equal(b, []int{2, 16}) {
		t.Errorf("the other days are %v now", b)
	}
	checkDays(t, x, tm, b...)
}
