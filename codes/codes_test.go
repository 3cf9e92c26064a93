package codes

import (
	"cmp"
	"fmt"
	"math/big"
	"regexp"
	"slices"
	"strings"
	"testing"

	"timetable/api"
)

const (
	letters = "ABCDEFGHIJKLMNOPQRSTUVWXYZabcdefghijklmnopqrstuvwxyz"
	signs   = "_-"
)

// P3.1: every byte alone, in front, in the middle and at the end.
func TestValidBytes(t *testing.T) {
	for i := range 256 {
		c := string([]byte{byte(i)})
		first := strings.Contains(letters+"0123456789", c)
		other := first || strings.Contains(signs, c)
		for s, want := range map[string]bool{c: first, c + "a": first, "a" + c + "a": other, "a" + c: other, "9" + c: other} {
			if Valid(s) != want {
				t.Errorf("Valid(%q) = %v", s, !want)
			}
		}
	}
}

// P3.1: 1 to MaxCode bytes.
func TestValidLength(t *testing.T) {
	for _, c := range []string{"a", "Z", "0"} {
		for n := range 48 {
			if want := 1 <= n && n <= 16; Valid(strings.Repeat(c, n)) != want {
				t.Errorf("%d bytes: %v", n, !want)
			}
		}
	}
	if Valid(strings.Repeat("a", 1<<20)) || Valid("abcdefgh\u00e9") || !Valid("R08-b_9-") {
		t.Error("Valid")
	}
}

func checkCompare(t *testing.T, a, b string, want int) {
	t.Helper()
	if got := Compare(a, b); got != want {
		t.Errorf("Compare(%.40q, %.40q) = %d, want %d", a, b, got, want)
	}
	if got := Compare(b, a); got != -want {
		t.Errorf("Compare(%.40q, %.40q) = %d, want %d", b, a, got, -want)
	}
}

// P3.2: each of these comes before the next ones.
func TestCompareOrder(t *testing.T) {
	for _, l := range [][]string{
		{"A09", "A9", "A10"},
		{"", "0", "00", "01", "1", "02", "2", "10", "-", "A", "a"},
		{"A", "A0", "A00", "A1", "A001x", "A1x", "A1x0", "A01y", "A-", "AA"},
		{"7", "7-7", "07-8", "7a", "A7"},
		{"A1", "A-1", "A_1", "Aa1"},
		{"A01B02", "A01B2", "A1B02", "A1B2", "A01B3", "A1B3", "A2B1"},
		{"\x00", "\x00\x00", "/", ":", "\u00e9", "\xff"},
		{"x1", "x1;", "x1\xff", "x1\xff0", "x2"},
		{"\u0661", "\u0662"},
	} {
		for i, a := range l {
			checkCompare(t, a, a, 0)
			for _, b := range l[i+1:] {
				checkCompare(t, a, b, -1)
			}
		}
	}
}

// P3.2: numbers that no integer type holds, and long strings.
func TestCompareLong(t *testing.T) {
	nines := strings.Repeat("9", 400)
	zeros := strings.Repeat("0", 400)
	checkCompare(t, "9223372036854775807", "9223372036854775808", -1)
	checkCompare(t, "18446744073709551615", "18446744073709551616", -1)
	checkCompare(t, "18446744073709551617", "2", 1)
	checkCompare(t, "A"+nines, "A1"+zeros, -1)
	checkCompare(t, "A"+zeros+nines, "A1"+zeros, -1)
	checkCompare(t, zeros+"1", nines, -1)
	checkCompare(t, zeros, zeros+"0", -1)
	checkCompare(t, zeros+"2", "1", 1)
	checkCompare(t, zeros+"2", "2", -1)
	checkCompare(t, zeros+"2", "2x", -1)
	checkCompare(t, nines+"8", nines+"9", -1)
	many := strings.Repeat("a1", 1<<20)
	checkCompare(t, many, many, 0)
	checkCompare(t, many+"b", many+"2", -1)
	checkCompare(t, many, many+"b", -1)
}

var element = regexp.MustCompile(`[0-9]+|[^0-9]+`)

// compared is what P3.2 says, by another way.
func compared(a, b string) int {
	l, m := element.FindAllString(a, -1), element.FindAllString(b, -1)
	for i := range min(len(l), len(m)) {
		x, isX := new(big.Int).SetString(l[i], 10)
		y, isY := new(big.Int).SetString(m[i], 10)
		c := strings.Compare(l[i], m[i])
		switch {
		case isX && isY:
			c = x.Cmp(y)
		case isX:
			c = -1
		case isY:
			c = 1
		}
		if c != 0 {
			return c
		}
	}
	return cmp.Or(cmp.Compare(len(l), len(m)), strings.Compare(a, b))
}

// shortStrings returns all strings of up to n of some bytes.
func shortStrings(bytes string, n int) []string {
	l := []string{""}
	for from := 0; n > 0; n-- {
		to := len(l)
		for _, s := range l[from:to] {
			for i := range len(bytes) {
				l = append(l, s+bytes[i:i+1])
			}
		}
		from = to
	}
	return l
}

// P3.2: all pairs of short strings.
func TestComparePairs(t *testing.T) {
	l := shortStrings("019A-", 4)
	for i, a := range l {
		for _, b := range l[i:] {
			checkCompare(t, a, b, compared(a, b))
		}
	}
}

// Consequences: Compare is a total order, so what is sorted is in order pair by pair.
func TestCompareTotal(t *testing.T) {
	l := shortStrings("01A_", 4)
	slices.SortFunc(l, Compare)
	for i, a := range l {
		checkCompare(t, a, a, 0)
		for _, b := range l[i+1:] {
			checkCompare(t, a, b, -1)
		}
	}
}

// series returns a prefix with the numbers from first to last, in the given format.
func series(format string, first, last int) []string {
	var l []string
	for i := first; i <= last; i++ {
		l = append(l, fmt.Sprintf(format, i))
	}
	return l
}

// semicolons returns the text of a list without ranges.
func semicolons(l []string) string { return strings.Join(l, ";") }

func checkList(t *testing.T, s string, want []string, e api.Errno) {
	t.Helper()
	got, err := List(s)
	if !slices.Equal(got, want) || err != e {
		t.Errorf("List(%.80q) = %q, %d; want %q, %d", s, got, err, want, e)
	}
}

// P3.3: single codes, and ranges.
func TestList(t *testing.T) {
	for s, want := range map[string]string{
		"":                                   "",
		"X":                                  "X",
		"b-_;A;a;9":                          "b-_ A a 9",
		"R08..R11;X":                         "R08 R09 R10 R11 X",
		"X;R1..R2;Y;S1..S2":                  "X R1 R2 Y S1 S2",
		"A1..A1":                             "A1",
		"A00..A00":                           "A00",
		"A0..A2":                             "A0 A1 A2",
		"7..9":                               "7 8 9",
		"08..11":                             "08 09 10 11",
		"A9..A11":                            "A9 A10 A11",
		"A98..A101":                          "A98 A99 A100 A101",
		"A099..A101":                         "A099 A100 A101",
		"A0099..A0101":                       "A0099 A0100 A0101",
		"A09..A10;A9":                        "A09 A10 A9",
		"A1B2..A1B3":                         "A1B2 A1B3",
		"A01-09..A01-10":                     "A01-09 A01-10",
		"1-_9..1-_11":                        "1-_9 1-_10 1-_11",
		"9999999999999998..9999999999999999": "9999999999999998 9999999999999999",
		"0000000000000009..0000000000000010": "0000000000000009 0000000000000010",
		"999999999999999..1000000000000001":  "999999999999999 1000000000000000 1000000000000001",
		"abcdefghijklmno8..abcdefghijklmno9": "abcdefghijklmno8 abcdefghijklmno9",
		"abcdefghijklmn8..abcdefghijklmn10":  "abcdefghijklmn8 abcdefghijklmn9 abcdefghijklmn10",
	} {
		checkList(t, s, strings.Fields(want), api.OK)
	}
}

// P3.3: each error of a part.
func TestListErrors(t *testing.T) {
	for e, l := range map[api.Errno][]string{
		api.ErrForm: {
			";", ";A", "A;", "A;;B", ";;", "....", ".....", "A1..A2..", "..A1..", "A1..A2..A3", "A1....A2", "A1..?..A3", "A..B...C", "?....",
		},
		api.ErrCode: {
			"?", " ", "A ", " A", "A; B", "a b", "A,B", "-A", "_", "\u00e9", "A\n", "A;\x00", ".", "A.", "A.B", "A1.A2",
			"..", "...", "..A1", "A1..", "A1..;B", "A...B", "A1...A3", "...A1", "A1...", "A1.. A2", "A1 ..A2", "-1..-2", "1..-2",
			"abcdefghijklmnopq", "aaaaaaaaaaaaaaaa1..aaaaaaaaaaaaaaaa2", "9999999999999999..10000000000000000",
			"99999999999999999999..99999999999999999999", "A1..A99999999999999999999", strings.Repeat("A", 1<<20),
		},
		api.ErrRange: {
			"A2..A1", "A3..A1", "A9..A0", "A10..A9", "A19..A11", "2..1", "A..B", "A..A", "A..A2", "A1..A", "A1..B2", "A1..a2", "A1..2", "1..A2", "A1-..A2-", "A1x..A2x",
			"A08..A9", "A8..A09", "A0..A00", "A00..A0", "A01..A1", "A1..A01", "A09..A010", "A9..A010", "A098..A0100", "A01-1..A1-2", "A1B1..A2B1", "a..b-9;a",
			"9999999999999999..1",
		},
		api.ErrDuplicate: {
			"A;A", "A;B;A", "A2;A1..A3", "A1..A3;A3", "A1..A3;A3..A5", "A9..A10;A10", "1;1..1",
		},
		api.ErrSize: {
			"A1..A65", "0..64", "X;A1..A64", "A1..A64;X", "A1..A32;B1..B33", "0..9999999999999999", "1;0..9999999999999999", semicolons(series("A%d", 1, 65)),
		},
	} {
		for _, s := range l {
			checkList(t, s, nil, e)
		}
	}
}

// P3.3: which error is returned if there are several: the first part that has one decides, and duplicates come at the end.
func TestListErrorOrder(t *testing.T) {
	full := semicolons(series("A%d", 1, 64))
	for _, x := range []struct {
		s string
		e api.Errno
	}{
		{"?..?..?", api.ErrForm},
		{"?;;A", api.ErrCode},
		{";?", api.ErrForm},
		{"?;A2..A1;;", api.ErrCode},
		{"A2..A1;?;", api.ErrRange},
		{"A2..?", api.ErrCode},
		{"A..?", api.ErrCode},
		{"A;A;?", api.ErrCode},
		{"A;A;", api.ErrForm},
		{"A;A;A2..A1", api.ErrRange},
		{"A;A;A1..A63", api.ErrSize},
		{"A1..A65;?", api.ErrSize},
		{"A1..A65;;", api.ErrSize},
		{"?;A1..A65", api.ErrCode},
		{full + ";A1", api.ErrSize},
		{full + ";?", api.ErrCode},
		{full + ";", api.ErrForm},
		{full + ";A2..A1", api.ErrRange},
		{full + ";A1..A1", api.ErrSize},
		{"A1..A65;A2..A1", api.ErrSize},
		{"99..1;A1..A65", api.ErrRange},
	} {
		checkList(t, x.s, nil, x.e)
	}
}

// P3.3: MaxList codes are not too many, however they are written.
func TestListLargest(t *testing.T) {
	l := series("A%d", 1, 64)
	checkList(t, "A1..A64", l, api.OK)
	checkList(t, semicolons(l), l, api.OK)
	checkList(t, "A1..A32;A33..A64", l, api.OK)
	checkList(t, "A1..A63;A64", l, api.OK)
	checkList(t, "A1;A2..A64", l, api.OK)
	checkList(t, "A1..A63;A63", nil, api.ErrDuplicate)
	checkList(t, "9999999999999936..9999999999999999", series("%d", 9999999999999936, 9999999999999999), api.OK)
}

// R1: a long text.
func TestListLong(t *testing.T) {
	checkList(t, strings.Repeat(";", 1<<24), nil, api.ErrForm)
	checkList(t, strings.Repeat(".", 1<<24), nil, api.ErrForm)
	checkList(t, strings.Repeat("A;", 1<<23), nil, api.ErrSize)
}

// checkJoin makes sure as well that the argument stays as it is (R2).
func checkJoin(t *testing.T, l []string, want string, e api.Errno) {
	t.Helper()
	before := slices.Clone(l)
	got, err := Join(l)
	if got != want || err != e {
		t.Errorf("Join(%.200q) = %q, %d; want %q, %d", l, got, err, want, e)
	}
	if !slices.Equal(l, before) {
		t.Errorf("Join changed %q to %q", before, l)
	}
}

// P3.4: which codes become a range.
func TestJoin(t *testing.T) {
	for l, want := range map[string]string{
		"":                    "",
		"X":                   "X",
		"A1 A2":               "A1;A2",
		"A1 A2 A3 B":          "A1..A3;B",
		"B A1 A2 A3":          "B;A1..A3",
		"A1 A2 A3 A4 A5":      "A1..A5",
		"A1 A2 A3 B1 B2 B3":   "A1..A3;B1..B3",
		"A1 A2 A3 A5 A6 A8":   "A1..A3;A5;A6;A8",
		"A1 A2 A4 A5 A6":      "A1;A2;A4..A6",
		"A0 A1 A2":            "A0..A2",
		"7 8 9":               "7..9",
		"8 9 10 11":           "8..11",
		"08 09 10":            "08..10",
		"A08 A09 A10 A11":     "A08..A11",
		"A98 A99 A100":        "A98..A100",
		"A098 A099 A100":      "A098..A100",
		"A8 A9 A10 A011":      "A8..A10;A011",
		"A7 A8 A9 A010":       "A7..A9;A010",
		"A08 A9 A10":          "A08;A9;A10",
		"A08 A9 A10 A11":      "A08;A9..A11",
		"A1 A02 A03 A04":      "A1;A02..A04",
		"A01 A1 A2 A3":        "A01;A1..A3",
		"A00 A01 A2":          "A00;A01;A2",
		"A3 A2 A1":            "A3;A2;A1",
		"A1 A3 A5":            "A1;A3;A5",
		"A1 B2 C3":            "A1;B2;C3",
		"A1 a2 a3 a4":         "A1;a2..a4",
		"A B C":               "A;B;C",
		"A1x A2x A3x":         "A1x;A2x;A3x",
		"A1B1 A1B2 A1B3 A2B4": "A1B1..A1B3;A2B4",
		"A1- A1-1 A1-2 A1-3":  "A1-;A1-1..A1-3",
		"1-8 1-9 1-10":        "1-8..1-10",
		"A A1 A2":             "A;A1;A2",
		"B 1 2 3 5":           "B;1..3;5",
		"9999999999999997 9999999999999998 9999999999999999": "9999999999999997..9999999999999999",
		"999999999999999 1000000000000000 1000000000000001":  "999999999999999..1000000000000001",
		"0000000000000009 0000000000000010 0000000000000011": "0000000000000009..0000000000000011",
	} {
		checkJoin(t, strings.Fields(l), want, api.OK)
	}
	checkJoin(t, nil, "", api.OK)
	checkJoin(t, []string{}, "", api.OK)
}

// P3.4: MaxList codes are not too many.
func TestJoinLargest(t *testing.T) {
	checkJoin(t, series("A%d", 1, 64), "A1..A64", api.OK)
	checkJoin(t, append(series("A%d", 1, 63), "B"), "A1..A63;B", api.OK)
	pairs := semicolons(series("a%dx", 100, 163))
	checkJoin(t, strings.Split(pairs, ";"), pairs, api.OK)
}

// P3.4: each error, and which one is returned.
func TestJoinErrors(t *testing.T) {
	l := series("A%d", 1, 65)
	for _, x := range []struct {
		l []string
		e api.Errno
	}{
		{l, api.ErrSize},
		{make([]string, 65), api.ErrSize},
		{slices.Repeat([]string{"A"}, 65), api.ErrSize},
		{make([]string, 64), api.ErrCode},
		{[]string{""}, api.ErrCode},
		{[]string{"A1", "A2", "?"}, api.ErrCode},
		{[]string{"A1..A3"}, api.ErrCode},
		{[]string{"A;B"}, api.ErrCode},
		{[]string{"-1", "-2", "-3"}, api.ErrCode},
		{[]string{"A", "abcdefghijklmnopq"}, api.ErrCode},
		{[]string{"9999999999999999", "10000000000000000", "10000000000000001"}, api.ErrCode},
		{[]string{"A1", "A2", "A1"}, api.ErrDuplicate},
		{[]string{"A1", "A1"}, api.ErrDuplicate},
		{append(slices.Clone(l[:63]), "A1"), api.ErrDuplicate},
		{[]string{"A", "A", "?"}, api.ErrDuplicate},
		{[]string{"?", "A", "A"}, api.ErrCode},
		{[]string{"A", "?", "A"}, api.ErrCode},
		{[]string{"?", "?"}, api.ErrCode},
	} {
		checkJoin(t, x.l, "", x.e)
	}
}

// joined is what P3.4 says, by trying out which ranges List reads.
func joined(l []string) string {
	var parts []string
	for i := 0; i < len(l); i++ {
		part := l[i]
		for j := len(l) - 1; j >= i+2; j-- {
			if read, e := List(l[i] + ".." + l[j]); e == api.OK && slices.Equal(read, l[i:j+1]) {
				part = l[i] + ".." + l[j]
				i = j
				break
			}
		}
		parts = append(parts, part)
	}
	return strings.Join(parts, ";")
}

// arrangements calls f for all lists of up to n of some codes, without duplicates.
func arrangements(codes []string, n int, f func(l []string)) {
	var extend func(l []string)
	extend = func(l []string) {
		f(l)
		for _, c := range codes {
			if len(l) < n && !slices.Contains(l, c) {
				extend(append(slices.Clone(l), c))
			}
		}
	}
	extend(nil)
}

// P3.4 and the consequence: List of Join, for all short lists of codes that may be ranges.
func TestListOfJoin(t *testing.T) {
	check := func(l []string) {
		s, e := Join(l)
		if want := joined(l); s != want || e != api.OK {
			t.Errorf("Join(%q) = %q, %d; want %q", l, s, e, want)
		}
		checkList(t, s, l, api.OK)
	}
	arrangements([]string{"8", "9", "09", "10", "010", "11", "A9", "A10"}, 5, check)
	arrangements([]string{"A", "A0", "A1", "A2", "A3", "A00", "A01", "A02"}, 5, check)
	for n := range 65 {
		check(series("%d", 0, n-1))
		check(series("r-%02d", 63, 62+n))
		check(series("%03d", 50, 49+n))
	}
}

// R2: results of List share no memory.
func TestListMemory(t *testing.T) {
	a, _ := List("A1..A3;B")
	b, _ := List("A1..A3;B")
	a[0], a[3] = "x", "y"
	if !slices.Equal(b, []string{"A1", "A2", "A3", "B"}) {
		t.Errorf("the other list is %q now", b)
	}
	checkList(t, "A1..A3;B", b, api.OK)
}
