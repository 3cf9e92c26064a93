package calendar

import (
	"math"
	"testing"
	"time"

	"timetable/api"
)

// extremes are numbers that are no part of a date, no day, no week and no weekday: with them, sums and products leave their type, or return into what is valid.
var extremes = []int{
	math.MinInt, math.MinInt + 1, math.MinInt / 7, math.MinInt / 2, math.MinInt32, -1 << 32, -36525, -7, -2, -1,
	36525, 36526, 1 << 16, math.MaxInt32, 1 << 32, 1<<32 + 2, math.MaxInt / 365, math.MaxInt / 7, math.MaxInt / 4, math.MaxInt / 2, math.MaxInt - 1, math.MaxInt,
}

// goDate returns the date of a day as the library of Go has it.
func goDate(day int) time.Time { return time.Date(2000, 1, 1+day, 0, 0, 0, 0, time.UTC) }

func checkDay(t *testing.T, year, month, d, want int, e api.Errno) {
	t.Helper()
	if day, err := Day(year, month, d); day != want || err != e {
		t.Errorf("Day(%d, %d, %d) = %d, %d; want %d, %d", year, month, d, day, err, want, e)
	}
}

func checkParts(t *testing.T, day, year, month, d int, e api.Errno) {
	t.Helper()
	if y, m, n, err := Parts(day); y != year || m != month || n != d || err != e {
		t.Errorf("Parts(%d) = %d, %d, %d, %d; want %d, %d, %d, %d", day, y, m, n, err, year, month, d, e)
	}
}

func checkWeek(t *testing.T, day, year, week int, e api.Errno) {
	t.Helper()
	if y, w, err := Week(day); y != year || w != week || err != e {
		t.Errorf("Week(%d) = %d, %d, %d; want %d, %d, %d", day, y, w, err, year, week, e)
	}
}

// P4.1: the first and the last day, and those about the ends of February.
func TestDayAndParts(t *testing.T) {
	for _, x := range []struct{ year, month, d, day int }{
		{2000, 1, 1, 0},
		{2000, 1, 31, 30},
		{2000, 2, 1, 31},
		{2000, 2, 28, 58},
		{2000, 2, 29, 59},
		{2000, 3, 1, 60},
		{2000, 12, 31, 365},
		{2001, 1, 1, 366},
		{2001, 2, 28, 424},
		{2001, 3, 1, 425},
		{2003, 12, 31, 1460},
		{2004, 1, 1, 1461},
		{2004, 2, 29, 1520},
		{2004, 12, 31, 1826},
		{2096, 2, 29, 35123},
		{2099, 2, 28, 36218},
		{2099, 3, 1, 36219},
		{2099, 12, 31, 36524},
		{2099, 12, 31, api.MaxDay},
	} {
		checkDay(t, x.year, x.month, x.d, x.day, api.OK)
		checkParts(t, x.day, x.year, x.month, x.d, api.OK)
	}
}

// P4.1 and the first consequence: all days.
func TestAllDays(t *testing.T) {
	for day := range api.MaxDay + 1 {
		date := goDate(day)
		checkDay(t, date.Year(), int(date.Month()), date.Day(), day, api.OK)
		checkParts(t, day, date.Year(), int(date.Month()), date.Day(), api.OK)
	}
}

// P4.1: each date that there is, and each near these that there is not, in the years about the permitted ones too.
func TestDates(t *testing.T) {
	dates := 0
	for year := 1990; year <= 2110; year++ {
		for month := -1; month <= 14; month++ {
			for d := -1; d <= 33; d++ {
				date := time.Date(year, time.Month(month), d, 0, 0, 0, 0, time.UTC)
				is := date.Year() == year && int(date.Month()) == month && date.Day() == d && 2000 <= year && year <= 2099
				if _, e := Day(year, month, d); (e == api.OK) != is {
					t.Errorf("Day(%d, %d, %d): %d", year, month, d, e)
				}
				if is {
					dates++
				} else {
					checkDay(t, year, month, d, 0, api.ErrDate)
				}
			}
		}
	}
	if dates != api.MaxDay+1 {
		t.Errorf("%d dates", dates)
	}
}

// P4.1: the years that have a 29th of February.
func TestLeapDays(t *testing.T) {
	for year := 2000; year <= 2099; year++ {
		if _, e := Day(year, 2, 29); (e == api.OK) != (year%4 == 0) {
			t.Errorf("Day(%d, 2, 29): %d", year, e)
		}
		checkDay(t, year, 2, 30, 0, api.ErrDate)
	}
	checkDay(t, 1996, 2, 29, 0, api.ErrDate)
	checkDay(t, 2100, 2, 28, 0, api.ErrDate)
	checkDay(t, 2104, 2, 29, 0, api.ErrDate)
}

// P4.1: what is no date.
func TestNoDate(t *testing.T) {
	for _, x := range [][3]int{
		{1999, 12, 31}, {1999, 1, 1}, {2100, 1, 1}, {2100, 12, 31}, {0, 1, 1}, {99, 1, 1}, {-2000, 1, 1}, {1900, 2, 28},
		{2010, 0, 1}, {2010, 13, 1}, {2010, -1, 1}, {2010, 1, 0}, {2010, 1, 32}, {2010, 1, -1}, {2010, 4, 31}, {2010, 6, 31}, {2010, 9, 31}, {2010, 11, 31}, {2010, 12, 32},
		{0, 0, 0}, {2000, 0, 0}, {1, 1, 2000}, {2000, 13, 32},
	} {
		checkDay(t, x[0], x[1], x[2], 0, api.ErrDate)
	}
	for _, n := range extremes {
		checkDay(t, n, 1, 1, 0, api.ErrDate)
		checkDay(t, 2000, n, 1, 0, api.ErrDate)
		checkDay(t, 2000, 1, n, 0, api.ErrDate)
		for _, m := range extremes {
			checkDay(t, n, m, 1, 0, api.ErrDate)
			checkDay(t, 2000, n, m, 0, api.ErrDate)
			checkDay(t, n, 2, m, 0, api.ErrDate)
			checkDay(t, n, m, n, 0, api.ErrDate)
		}
		checkDay(t, 2000+n, 1, 1, 0, api.ErrDate)
	}
}

// P4.1 and P4.2: what is no day.
func TestNoDay(t *testing.T) {
	for _, day := range extremes {
		checkParts(t, day, 0, 0, 0, api.ErrDate)
		checkWeek(t, day, 0, 0, api.ErrDate)
		if w := Weekday(day); w != -1 {
			t.Errorf("Weekday(%d) = %d", day, w)
		}
	}
}

// P4.1 and the last consequence: Monday is 0, and the weekdays follow each other.
func TestWeekday(t *testing.T) {
	for day, want := range map[int]int{0: 5, 1: 6, 2: 0, 3: 1, 8: 6, 9: 0, 59: 1, 60: 2, api.MaxDay - 3: 0, api.MaxDay: 3} {
		if got := Weekday(day); got != want {
			t.Errorf("Weekday(%d) = %d, want %d", day, got, want)
		}
	}
	for day := range api.MaxDay + 1 {
		got := Weekday(day)
		if want := (int(goDate(day).Weekday()) + 6) % 7; got != want {
			t.Errorf("Weekday(%d) = %d, want %d", day, got, want)
		}
		if next := Weekday(day + 1); day < api.MaxDay && next != (got+1)%7 {
			t.Errorf("Weekday(%d) = %d behind %d", day+1, next, got)
		}
	}
}

// P4.2: days near the ends of years, whose weeks belong to the year before or after.
func TestWeek(t *testing.T) {
	for _, x := range []struct{ year, month, d, weekYear, week int }{
		{2000, 1, 1, 1999, 52},
		{2000, 1, 2, 1999, 52},
		{2000, 1, 3, 2000, 1},
		{2000, 1, 4, 2000, 1},
		{2000, 12, 31, 2000, 52},
		{2001, 1, 1, 2001, 1},
		{2003, 12, 28, 2003, 52},
		{2003, 12, 29, 2004, 1},
		{2004, 1, 1, 2004, 1},
		{2004, 12, 31, 2004, 53},
		{2005, 1, 2, 2004, 53},
		{2005, 1, 3, 2005, 1},
		{2008, 12, 29, 2009, 1},
		{2010, 1, 3, 2009, 53},
		{2010, 1, 4, 2010, 1},
		{2012, 1, 1, 2011, 52},
		{2020, 2, 29, 2020, 9},
		{2024, 12, 29, 2024, 52},
		{2024, 12, 30, 2025, 1},
		{2024, 12, 31, 2025, 1},
		{2026, 11, 18, 2026, 47},
		{2099, 12, 27, 2099, 52},
		{2099, 12, 28, 2099, 53},
		{2099, 12, 31, 2099, 53},
	} {
		day, _ := Day(x.year, x.month, x.d)
		checkWeek(t, day, x.weekYear, x.week, api.OK)
	}
}

// P4.2: all days.
func TestAllWeeks(t *testing.T) {
	for day := range api.MaxDay + 1 {
		year, week := goDate(day).ISOWeek()
		checkWeek(t, day, year, week, api.OK)
	}
}

// P4.2 as it is worded: the 4th of January is in week 1 of its year, the Monday of each week begins one, and its other days belong to it.
func TestWeekBorders(t *testing.T) {
	for year := 2000; year <= 2099; year++ {
		day, _ := Day(year, 1, 4)
		checkWeek(t, day, year, 1, api.OK)
	}
	for day := 1; day <= api.MaxDay; day++ {
		yearBefore, weekBefore, _ := Week(day - 1)
		year, week, _ := Week(day)
		if begins := year != yearBefore || week != weekBefore; begins != (Weekday(day) == 0) {
			t.Errorf("week %d of %d, with the day %d on the weekday %d, behind week %d of %d", week, year, day, Weekday(day), weekBefore, yearBefore)
		}
	}
}
