package numerals

import (
	"math"
	"strconv"
	"strings"
	"testing"
)

func checkRead(t *testing.T, s string, digits, want int, ok bool) {
	t.Helper()
	if n, k := Read(s, digits); n != want || k != ok {
		t.Errorf("Read(%.40q, %d) = %d, %v", s, digits, n, k)
	}
}

func TestRead(t *testing.T) {
	for digits := 1; digits <= 4; digits++ {
		for n := range 100000 {
			s := strconv.Itoa(n)
			if n > 0 && len(s) <= digits {
				checkRead(t, s, digits, n, true)
			} else {
				checkRead(t, s, digits, 0, false)
			}
		}
	}
	checkRead(t, strconv.Itoa(math.MaxInt), 19, math.MaxInt, true)
	checkRead(t, "9223372036854775808", 19, 0, false)
	checkRead(t, strings.Repeat("9", 1000), math.MaxInt, 0, false)
	for _, digits := range []int{0, -1, math.MinInt} {
		checkRead(t, "", digits, 0, false)
		checkRead(t, "1", digits, 0, false)
	}
}

func checkPadded(t *testing.T, s string, digits, want int, ok bool) {
	t.Helper()
	if n, k := ReadPadded(s, digits); n != want || k != ok {
		t.Errorf("ReadPadded(%.40q, %d) = %d, %v", s, digits, n, k)
	}
}

func TestReadPadded(t *testing.T) {
	for digits := 1; digits <= 4; digits++ {
		for n := range 20000 {
			for zeros := range 5 {
				s := strings.Repeat("0", zeros) + strconv.Itoa(n)
				if len(s) <= digits {
					checkPadded(t, s, digits, n, true)
				} else {
					checkPadded(t, s, digits, 0, false)
				}
			}
		}
	}
	checkPadded(t, "0"+strconv.Itoa(math.MaxInt), 20, math.MaxInt, true)
	checkPadded(t, "9223372036854775808", 19, 0, false)
	checkPadded(t, strings.Repeat("0", 1000)+"7", 1001, 7, true)
	checkPadded(t, strings.Repeat("9", 1000), math.MaxInt, 0, false)
	for _, digits := range []int{0, -1, math.MinInt} {
		checkPadded(t, "", digits, 0, false)
		checkPadded(t, "0", digits, 0, false)
	}
}

func TestReadForm(t *testing.T) {
	for _, s := range []string{
		"", " ", "-", "--", "0", "00", "01", "007", "+1", "-1", "1-", "1+", "1-2", "1_0", "_1", "1_", "0x1", "0b1", "1e1", "1.", ".1", "1.0", "1,0",
		" 1", "1 ", "1 2", "\t1", "1\n", "1\x00", "\x001", "a", "a1", "1a", "1:", ":1", "1/", "/1", "\u0661", "1\u0661", "\uff11", "\xff", "1\xff",
	} {
		for digits := 1; digits <= 5; digits++ {
			checkRead(t, s, digits, 0, false)
			if s == "" || strings.Trim(s, "01234567") != "" {
				checkPadded(t, s, digits, 0, false)
			}
		}
		if from, to, ok := ReadSpan(s, 1); s != "1-2" && (from != 0 || to != 0 || ok) {
			t.Errorf("ReadSpan(%q) = %d, %d, %v", s, from, to, ok)
		}
	}
}

func TestReadSpan(t *testing.T) {
	for _, x := range []struct {
		s        string
		digits   int
		from, to int
		ok       bool
	}{
		{"1", 1, 1, 1, true},
		{"1-2", 1, 1, 2, true},
		{"2-1", 1, 2, 1, true},
		{"7-7", 1, 7, 7, true},
		{"99-10", 2, 99, 10, true},
		{"1-9999", 4, 1, 9999, true},
		{"10", 1, 0, 0, false},
		{"10-1", 1, 0, 0, false},
		{"1-10", 1, 0, 0, false},
		{"0-1", 2, 0, 0, false},
		{"1-0", 2, 0, 0, false},
		{"1-02", 2, 0, 0, false},
		{"01-2", 2, 0, 0, false},
		{"1--2", 2, 0, 0, false},
		{"-1-2", 2, 0, 0, false},
		{"1-2-", 2, 0, 0, false},
		{"1-2-3", 4, 0, 0, false},
		{"1 -2", 2, 0, 0, false},
		{"1- 2", 2, 0, 0, false},
		{"1\u20132", 9, 0, 0, false},
		{"x-2", 2, 0, 0, false},
		{"1-x", 2, 0, 0, false},
		{"1-2", 0, 0, 0, false},
	} {
		if from, to, ok := ReadSpan(x.s, x.digits); from != x.from || to != x.to || ok != x.ok {
			t.Errorf("ReadSpan(%q, %d) = %d, %d, %v", x.s, x.digits, from, to, ok)
		}
	}
}

func TestWriteSpan(t *testing.T) {
	for from := 1; from <= 120; from++ {
		for to := 1; to <= 120; to++ {
			want := strconv.Itoa(from) + "-" + strconv.Itoa(to)
			if from == to {
				want = strconv.Itoa(from)
			}
			s := WriteSpan(from, to)
			if a, b, ok := ReadSpan(s, 3); s != want || a != from || b != to || !ok {
				t.Errorf("WriteSpan(%d, %d) = %q, read as %d, %d, %v", from, to, s, a, b, ok)
			}
		}
	}
}
