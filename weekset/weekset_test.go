package weekset

import (
	"math"
	"regexp"
	"slices"
	"strconv"
	"strings"
	"testing"

	"timetable/api"
)

// extremes are numbers that are neither a set of weeks nor the number of weeks of a term; the sums would be one if only their last 32 bits counted.
var extremes = []int{math.MinInt, math.MinInt + 1, math.MinInt64 + 5, math.MinInt32 - 1, math.MinInt32, -1 << 20, -1023, -21, -20, -2, -1, 0, 1 << 20, 1<<20 + 1, 1<<21 - 1, 1 << 21, math.MaxInt32, 1 << 31, math.MaxUint32, 1 << 32, 1<<32 + 1, 1<<32 + 5, 1<<62 + 3, math.MaxInt - 1, math.MaxInt}

// setOfList is the set of a list of weeks, by its definition.
func setOfList(weeks ...int) int {
	set := 0
	for _, w := range weeks {
		set |= 1 << (w - 1)
	}
	return set
}

// upTo returns the weeks from one to another.
func upTo(from, to int) []int {
	var l []int
	for w := from; w <= to; w++ {
		l = append(l, w)
	}
	return l
}

// every returns every second week from one to another.
func every(from, to int) []int {
	var l []int
	for w := from; w <= to; w += 2 {
		l = append(l, w)
	}
	return l
}

// half returns the last week of the first half, as a table.
func half(n int) int {
	return []int{0, 1, 1, 2, 2, 3, 3, 4, 4, 5, 5, 6, 6, 7, 7, 8, 8, 9, 9, 10, 10}[n]
}

// wordsOf returns what the words mean in a term of n weeks, in the order of P5.3.
func wordsOf(n int) (words []string, sets []int) {
	return []string{"all", "odd", "even", "first", "second"}, []int{
		setOfList(upTo(1, n)...),
		setOfList(every(1, n)...),
		setOfList(every(2, n)...),
		setOfList(upTo(1, half(n))...),
		setOfList(upTo(half(n)+1, n)...),
	}
}

func checkValid(t *testing.T, set, n int, want bool) {
	t.Helper()
	if got := Valid(set, n); got != want {
		t.Errorf("Valid(%d, %d) = %v", set, n, got)
	}
}

// P5.1: the borders of the sets for every n.
func TestValid(t *testing.T) {
	for n := 1; n <= 20; n++ {
		most := 2
		for range n - 1 {
			most *= 2
		}
		for _, set := range []int{1, 2, most / 2, most - 2, most - 1, most, most + 1, 2*most - 1, 2 * most, -most, 1 - most, 1<<32 + 1} {
			checkValid(t, set, n, 0 < set && set < most)
		}
		for set := -9; set <= 1100; set++ {
			checkValid(t, set, n, 0 < set && set < most)
		}
		for _, set := range extremes {
			checkValid(t, set, n, false)
		}
	}
}

// P5.1: what no term has as its number of weeks.
func TestValidWeeks(t *testing.T) {
	for _, n := range append([]int{21, 22, 31, 32, 33, 62, 63, 64, 65, 66, 84}, extremes...) {
		for _, set := range append([]int{1, 2, 3, 1<<20 - 1}, extremes...) {
			checkValid(t, set, n, false)
		}
	}
}

func checkWeeks(t *testing.T, set int, want ...int) {
	t.Helper()
	if got := Weeks(set); !slices.Equal(got, want) {
		t.Errorf("Weeks(%d) = %v, want %v", set, got, want)
	}
}

// P5.1: the weeks of some sets, and of what is none.
func TestWeeks(t *testing.T) {
	checkWeeks(t, 1, 1)
	checkWeeks(t, 2, 2)
	checkWeeks(t, 0b1101, 1, 3, 4)
	checkWeeks(t, 1<<19, 20)
	checkWeeks(t, 1<<19|1<<18|2, 2, 19, 20)
	checkWeeks(t, 1<<20-1, upTo(1, 20)...)
	checkWeeks(t, 1<<20-2, upTo(2, 20)...)
	for _, set := range extremes {
		checkWeeks(t, set)
	}
	for i := 20; i < 64; i++ {
		checkWeeks(t, 1<<i)
		checkWeeks(t, 1<<i|1)
		checkWeeks(t, -(1 << i))
	}
}

// P5.1: all sets: the weeks are in order, and make up the set.
func TestAllWeeks(t *testing.T) {
	for set := 1; set < 1<<20; set++ {
		l := Weeks(set)
		if !slices.IsSorted(l) || setOfList(l...) != set || len(slices.Compact(l)) != len(l) {
			t.Fatalf("Weeks(%d) = %v", set, l)
		}
	}
}

// R2: each call has a result of its own.
func TestWeeksNew(t *testing.T) {
	l := Weeks(7)
	l[0], l[1], l[2] = 9, 9, 9
	checkWeeks(t, 7, 1, 2, 3)
}

func checkParse(t *testing.T, s string, n, want int, e api.Errno) {
	t.Helper()
	if set, err := Parse(s, n); set != want || err != e {
		t.Errorf("Parse(%.60q, %d) = %d, %d; want %d, %d", s, n, set, err, want, e)
	}
}

// checkList is checkParse without an error, for a list of weeks.
func checkList(t *testing.T, s string, n int, weeks ...int) {
	t.Helper()
	checkParse(t, s, n, setOfList(weeks...), api.OK)
}

// P5.2: numbers and two of them.
func TestParse(t *testing.T) {
	checkList(t, "1-3,7", 10, 1, 2, 3, 7)
	checkList(t, "7,1-3", 10, 1, 2, 3, 7)
	checkList(t, "3,2,1,3", 3, 1, 2, 3)
	checkList(t, "1-3,2-4,3", 4, 1, 2, 3, 4)
	checkList(t, "5-5", 10, 5)
	checkList(t, "9-11", 12, 9, 10, 11)
	checkList(t, "10,20", 20, 10, 20)
	checkList(t, strings.Repeat("1,", 1<<16)+"20", 20, 1, 20)
	for n := 1; n <= 20; n++ {
		for from := 1; from <= n; from++ {
			checkList(t, strconv.Itoa(from), n, from)
			for to := from; to <= n; to++ {
				checkList(t, strconv.Itoa(from)+"-"+strconv.Itoa(to), n, upTo(from, to)...)
			}
		}
	}
}

// P5.2: words.
func TestParseWords(t *testing.T) {
	checkList(t, "odd", 10, 1, 3, 5, 7, 9)
	checkList(t, "even", 10, 2, 4, 6, 8, 10)
	checkList(t, "first", 10, 1, 2, 3, 4, 5)
	checkList(t, "first", 9, 1, 2, 3, 4, 5)
	checkList(t, "second", 10, 6, 7, 8, 9, 10)
	checkList(t, "second", 9, 6, 7, 8, 9)
	checkList(t, "all", 5, 1, 2, 3, 4, 5)
	checkList(t, "odd,even", 20, upTo(1, 20)...)
	checkList(t, "first,second", 19, upTo(1, 19)...)
	checkList(t, "first,7-8,odd", 9, 1, 2, 3, 4, 5, 7, 8, 9)
	checkList(t, "all,all,1", 2, 1, 2)
	checkList(t, "second,first", 1, 1)
	checkList(t, "1,even", 1, 1)
	for n := 1; n <= 20; n++ {
		words, sets := wordsOf(n)
		for i, a := range words {
			for j, b := range words {
				e := api.OK
				if sets[i]|sets[j] == 0 {
					e = api.ErrEmpty
				}
				checkParse(t, a+","+b, n, sets[i]|sets[j], e)
				checkParse(t, a+","+b+","+strconv.Itoa(n), n, sets[i]|sets[j]|setOfList(n), api.OK)
			}
		}
	}
}

// P5.2: a term of one week has neither even weeks nor a second half.
func TestParseEmpty(t *testing.T) {
	for _, s := range []string{"even", "second", "even,second", "second,even,even"} {
		checkParse(t, s, 1, 0, api.ErrEmpty)
		for n := 2; n <= 20; n++ {
			if set, e := Parse(s, n); set == 0 || e != api.OK {
				t.Errorf("Parse(%q, %d) = %d, %d", s, n, set, e)
			}
		}
	}
	checkParse(t, "first", 1, 1, api.OK)
	checkParse(t, "all", 1, 1, api.OK)
	checkParse(t, "odd", 1, 1, api.OK)
}

// misshapen are items that are nothing of what P5.2 names.
var misshapen = []string{
	"", " ", "-", "--", "0", "00", "01", "09", "0x1", "100", "001", "010", "999", "12345678901234567890123",
	"1-", "-1", "1--2", "1-2-3", "1-2-", "-1-2", "1-0", "0-1", "1-02", "01-2", "1-100", "100-101", "1-001",
	" 1", "1 ", "1 2", "1 -2", "1- 2", "\t1", "1\n", "\r", "1\x00", "+1", "1-+2", "1_", "1_0", "1.", "1.0", "1e", "1e1", "a", "1a", "a1", "1:", "1/", ":", "/", "/1", ":1",
	"All", "ALL", "all ", " all", "al", "alll", "odd-even", "1-odd", "odd-1", "first-second", "1-all", "one", "Odd", "EVEN", "First", "seconds", "halves",
	"1;2", "1..2", "1\u20132", "1\u22122", "\u0661", "1\u0661", "\u0661\u0661", "\uff11", "\xff", "1\xff", "\u00e9", "\"1\"", "*",
}

// P5.2: what is no item, alone, behind and in front of one.
func TestParseForm(t *testing.T) {
	for n := 1; n <= 20; n++ {
		for _, s := range misshapen {
			checkParse(t, s, n, 0, api.ErrForm)
			checkParse(t, "1,"+s, n, 0, api.ErrForm)
			checkParse(t, s+",1", n, 0, api.ErrForm)
			checkParse(t, "even,"+s, n, 0, api.ErrForm)
		}
		for _, s := range []string{",", ",,", "1,", ",1", "1,,1", "1,1,", "all,", ",all", "1, 2", "1 ,2"} {
			checkParse(t, s, n, 0, api.ErrForm)
		}
	}
	checkParse(t, strings.Repeat("1", 1<<20), 20, 0, api.ErrForm)
	checkParse(t, strings.Repeat(",", 1<<20), 20, 0, api.ErrForm)
	checkParse(t, strings.Repeat("1-", 1<<20), 20, 0, api.ErrForm)
}

// P5.2: every byte alone, behind and in front of a digit and of a word.
func TestParseBytes(t *testing.T) {
	for i := range 256 {
		c := string([]byte{byte(i)})
		if c == "," {
			continue
		}
		checkParse(t, c+"all", 20, 0, api.ErrForm)
		checkParse(t, "odd"+c, 20, 0, api.ErrForm)
		switch d := i - '0'; {
		case d == 0:
			checkParse(t, c, 20, 0, api.ErrForm)
			checkParse(t, c+"1", 20, 0, api.ErrForm)
			checkList(t, "1"+c, 20, 10)
		case 1 <= d && d <= 9:
			checkList(t, c, 20, d)
			checkList(t, "1"+c, 20, 10+d)
			if d == 1 {
				checkList(t, c+"1", 20, 11)
			} else {
				checkParse(t, c+"1", 20, 0, api.ErrRange)
			}
		default:
			checkParse(t, c, 20, 0, api.ErrForm)
			checkParse(t, c+"1", 20, 0, api.ErrForm)
			checkParse(t, "1"+c, 20, 0, api.ErrForm)
		}
	}
}

// P5.2: numbers beyond n, and two numbers of which the first one is greater.
func TestParseRange(t *testing.T) {
	for n := 1; n <= 20; n++ {
		for from := 1; from <= 99; from++ {
			a := strconv.Itoa(from)
			if from > n {
				checkParse(t, a, n, 0, api.ErrRange)
			}
			for to := 1; to <= 99; to++ {
				if from > to || to > n {
					checkParse(t, a+"-"+strconv.Itoa(to), n, 0, api.ErrRange)
				}
			}
		}
	}
}

// P5.2: what is no number of weeks, whatever the text is.
func TestParseWeeks(t *testing.T) {
	texts := append([]string{"1", "all", "1-2", "even", "second", "99", "2-1", "99,x"}, misshapen...)
	for _, n := range append([]int{21, 22, 63, 64, 65}, extremes...) {
		for _, s := range texts {
			checkParse(t, s, n, 0, api.ErrRange)
		}
	}
}

// P5.2 and R5: the first item with an error decides.
func TestParseOrder(t *testing.T) {
	for _, x := range []struct {
		s string
		e api.Errno
	}{
		{"1-11,x", api.ErrRange},
		{"11,", api.ErrRange},
		{"11,0", api.ErrRange},
		{"3-2,1-2-3", api.ErrRange},
		{"1,11,x,", api.ErrRange},
		{"x,11", api.ErrForm},
		{",11", api.ErrForm},
		{"1,x,3-2", api.ErrForm},
		{"0,11,3-2", api.ErrForm},
		{"11-x", api.ErrForm},
		{"x-11", api.ErrForm},
		{"11-", api.ErrForm},
		{"3-2-1", api.ErrForm},
		{"99-011", api.ErrForm},
		{"even,11", api.ErrRange},
		{"even,x", api.ErrForm},
	} {
		checkParse(t, x.s, 10, 0, x.e)
	}
	checkParse(t, "even,2", 1, 0, api.ErrRange)
	checkParse(t, "second,", 1, 0, api.ErrForm)
	checkParse(t, "second,1-2,x", 1, 0, api.ErrRange)
}

var itemForm = regexp.MustCompile(`^([1-9][0-9]?)(?:-([1-9][0-9]?))?$`)

// parsed is what P5.2 says of an n from 1 to MaxWeeks, by another way.
func parsed(s string, n int) (int, api.Errno) {
	words, sets := wordsOf(n)
	set := 0
	for _, item := range strings.Split(s, ",") {
		if i := slices.Index(words, item); i >= 0 {
			set |= sets[i]
			continue
		}
		m := itemForm.FindStringSubmatch(item)
		if m == nil {
			return 0, api.ErrForm
		}
		from, _ := strconv.Atoi(m[1])
		to := from
		if m[2] != "" {
			to, _ = strconv.Atoi(m[2])
		}
		if from > n || to > n || from > to {
			return 0, api.ErrRange
		}
		set |= setOfList(upTo(from, to)...)
	}
	if set == 0 {
		return 0, api.ErrEmpty
	}
	return set, api.OK
}

// joined returns all texts of up to n parts.
func joined(parts []string, n int) []string {
	l := []string{""}
	for from := 0; n > 0; n-- {
		to := len(l)
		for _, s := range l[from:to] {
			for _, p := range parts {
				l = append(l, s+p)
			}
		}
		from = to
	}
	return l
}

// P5.2: all short texts.
func TestParseShort(t *testing.T) {
	for _, s := range joined([]string{"0", "1", "2", "3", "9", ",", "-", "x"}, 5) {
		for _, n := range []int{1, 2, 3, 12, 20} {
			want, e := parsed(s, n)
			checkParse(t, s, n, want, e)
		}
	}
	for _, s := range joined([]string{"all", "odd", "even", "first", "second", "1", "2", ",", "-", " "}, 4) {
		for _, n := range []int{1, 2, 5, 20} {
			want, e := parsed(s, n)
			checkParse(t, s, n, want, e)
		}
	}
}

func checkFormat(t *testing.T, set, n int, want string, e api.Errno) {
	t.Helper()
	if s, err := Format(set, n); s != want || err != e {
		t.Errorf("Format(%d, %d) = %q, %d; want %q, %d", set, n, s, err, want, e)
	}
}

// P5.3: sets without a name, with runs of one, two and more weeks.
func TestFormat(t *testing.T) {
	for _, x := range []struct {
		n     int
		want  string
		weeks []int
	}{
		{3, "2-3", []int{2, 3}},
		{4, "1", []int{1}},
		{4, "2", []int{2}},
		{4, "4", []int{4}},
		{4, "1,4", []int{1, 4}},
		{4, "1-3", []int{1, 2, 3}},
		{4, "2-4", []int{2, 3, 4}},
		{10, "1-3,7", []int{1, 2, 3, 7}},
		{10, "1-2,10", []int{1, 2, 10}},
		{10, "1,3,5,7", []int{1, 3, 5, 7}},
		{10, "1-4,6-9", []int{1, 2, 3, 4, 6, 7, 8, 9}},
		{10, "1,3-4,6-8,10", []int{1, 3, 4, 6, 7, 8, 10}},
		{10, "5-6", []int{5, 6}},
		{10, "1-6", upTo(1, 6)},
		{10, "1-9", upTo(1, 9)},
		{10, "2-10", upTo(2, 10)},
		{20, "20", []int{20}},
		{20, "9-10,19-20", []int{9, 10, 19, 20}},
		{20, "1-19", upTo(1, 19)},
		{20, "1,20", []int{1, 20}},
		{19, "1-5", upTo(1, 5)},
		{20, "1,3,5,7,9,11,13,15,17", every(1, 17)},
		{20, "2,4,6,8,10,12,14,16,18-20", append(every(2, 18), 19, 20)},
	} {
		checkFormat(t, setOfList(x.weeks...), x.n, x.want, api.OK)
	}
}

// P5.3: names, also where several of them fit.
func TestFormatNames(t *testing.T) {
	for _, x := range []struct {
		set, n int
		want   string
	}{
		{1, 1, "all"},
		{3, 2, "all"},
		{1, 2, "odd"},
		{2, 2, "even"},
		{7, 3, "all"},
		{5, 3, "odd"},
		{2, 3, "even"},
		{3, 3, "first"},
		{4, 3, "second"},
		{3, 4, "first"},
		{12, 4, "second"},
		{7, 5, "first"},
		{24, 5, "second"},
		{31, 10, "first"},
		{31 << 5, 10, "second"},
		{1<<20 - 1, 20, "all"},
	} {
		checkFormat(t, x.set, x.n, x.want, api.OK)
	}
	for n := 1; n <= 20; n++ {
		words, sets := wordsOf(n)
		for i, set := range sets {
			if set != 0 {
				checkFormat(t, set, n, words[slices.Index(sets, set)], api.OK)
			} else if n != 1 || words[i] != "even" && words[i] != "second" {
				t.Errorf("%q has no week of %d", words[i], n)
			}
		}
	}
}

// P5.3: what is no set for n.
func TestFormatInvalid(t *testing.T) {
	for n := 1; n <= 20; n++ {
		for _, set := range append([]int{1 << n, 1<<n + 1, 1<<(n+1) - 1}, extremes...) {
			checkFormat(t, set, n, "", api.ErrInvalid)
		}
	}
	for _, n := range append([]int{21, 22, 63, 64, 65}, extremes...) {
		for _, set := range append([]int{1, 2, 3, 1<<20 - 1}, extremes...) {
			checkFormat(t, set, n, "", api.ErrInvalid)
		}
	}
}

// formatted is what P5.3 says of a valid set, by another way: blanks in place of the weeks that it does not have divide the runs.
func formatted(set, n int) string {
	words, sets := wordsOf(n)
	if i := slices.Index(sets, set); i >= 0 {
		return words[i]
	}
	var b strings.Builder
	for w := 1; w <= n; w++ {
		if set&(1<<(w-1)) != 0 {
			b.WriteByte(byte('A' + w))
		} else {
			b.WriteByte(' ')
		}
	}
	var items []string
	for _, run := range strings.Fields(b.String()) {
		text := strconv.Itoa(int(run[0] - 'A'))
		if len(run) > 1 {
			text += "-" + strconv.Itoa(int(run[len(run)-1]-'A'))
		}
		items = append(items, text)
	}
	return strings.Join(items, ",")
}

// P5.3 and the consequence: all sets of short terms, and some of all others.
func TestFormatAndParse(t *testing.T) {
	for n := 1; n <= 20; n++ {
		step := 1
		if n > 12 {
			step = 1<<(n-12) - 1
		}
		for set := 1; set < 1<<n; set += step {
			s := formatted(set, n)
			checkFormat(t, set, n, s, api.OK)
			checkParse(t, s, n, set, api.OK)
		}
	}
}

// The consequence: all sets of the longest term.
func TestParseFormat(t *testing.T) {
	for set := 1; set < 1<<20; set++ {
		s, e := Format(set, 20)
		if e != api.OK {
			t.Fatalf("Format(%d, 20): %d", set, e)
		}
		if got, e := Parse(s, 20); got != set || e != api.OK {
			t.Fatalf("Parse(%q, 20) = %d, %d; want %d", s, got, e, set)
		}
	}
}
