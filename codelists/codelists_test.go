package codelists

import (
	"slices"
	"strconv"
	"strings"
	"testing"

	"timetable/api"
	"timetable/codes"
)

func checkRead(t *testing.T, s string, want []string, e api.Errno) {
	t.Helper()
	if l, err := Read(s); !slices.Equal(l, want) || err != e {
		t.Errorf("Read(%.80q) = %q, %d; want %q, %d", s, l, err, want, e)
	}
}

// numbered returns n different codes in ascending order.
func numbered(n int) []string {
	var l []string
	for i := range n {
		l = append(l, "f"+strconv.Itoa(10+i))
	}
	return l
}

func TestRead(t *testing.T) {
	for s, want := range map[string]string{
		"lab":             "lab",
		"beamer;lab":      "beamer;lab",
		"lab;beamer":      "beamer;lab",
		"c;b;a;C;B;A;2;1": "1;2;A;B;C;a;b;c",
		"a8..a11":         "a10;a11;a8;a9",
		"a9;a10":          "a10;a9",
		"z;a08..a10;b":    "a08;a09;a10;b;z",
		"f1..f8":          "f1;f2;f3;f4;f5;f6;f7;f8",
		"a_;a-;aA;aa;a0":  "a-;a0;aA;a_;aa",
	} {
		checkRead(t, s, strings.Split(want, ";"), api.OK)
	}
	checkRead(t, "", nil, api.OK)
}

func checkReadFew(t *testing.T, s string, want []string, e api.Errno) {
	t.Helper()
	if l, err := ReadFew(s); !slices.Equal(l, want) || err != e {
		t.Errorf("ReadFew(%.80q) = %q, %d; want %q, %d", s, l, err, want, e)
	}
}

// ReadFew leaves the codes as codes.List reads them.
func TestReadFew(t *testing.T) {
	for _, s := range []string{"lab", "beamer;lab", "lab;beamer", "c;b;a;C;B;A;2;1", "a8..a11", "a9;a10", "z;a08..a10;b", "f1..f8", "a_;a-;aA;aa;a0"} {
		want, e := codes.List(s)
		checkReadFew(t, s, want, e)
	}
	checkReadFew(t, "z;a9..a10;b", []string{"z", "a9", "a10", "b"}, api.OK)
	checkReadFew(t, "", nil, api.OK)
}

// The error of codes.List comes before that of the number.
func TestReadErrors(t *testing.T) {
	for _, s := range []string{";", "a;", ";a", "a;;b", "a..b..c", "?", "a;?", "a b", "..", "a..", "..a", "a1..a", "a2..a1", "a1..b2", "a;a", "a1..a3;a2", "f1..f64;f1", "f1..f65", "f1..f65;?", "f1..f64;?", "f1..f9;f1", "f1..f9;?", "f1..f9;"} {
		_, e := codes.List(s)
		if e == api.OK {
			t.Errorf("codes.List(%q) has no error", s)
		}
		checkRead(t, s, nil, e)
		checkReadFew(t, s, nil, e)
	}
	for n := 1; n <= 64; n++ {
		l := numbered(n)
		s := strings.Join(l, ";")
		span := l[0] + ".." + l[n-1]
		if n <= 8 {
			checkRead(t, s, l, api.OK)
			checkRead(t, span, l, api.OK)
			checkReadFew(t, s, l, api.OK)
			checkReadFew(t, span, l, api.OK)
		} else {
			checkRead(t, s, nil, api.ErrSize)
			checkRead(t, span, nil, api.ErrSize)
			checkReadFew(t, s, nil, api.ErrSize)
			checkReadFew(t, span, nil, api.ErrSize)
		}
	}
}

func checkWrite(t *testing.T, l []string, want string) {
	t.Helper()
	if s := Write(l); s != want {
		t.Errorf("Write(%q) = %q, want %q", l, s, want)
	}
}

func TestWrite(t *testing.T) {
	for want, l := range map[string][]string{
		"":               nil,
		"lab":            {"lab"},
		"beamer;lab":     {"beamer", "lab"},
		"a10..a12;b":     {"a10", "a11", "a12", "b"},
		"a10;a11;a8;a9":  {"a10", "a11", "a8", "a9"},
		"f10..f17":       numbered(8),
		"a-;a0;aA;a_;aa": {"a-", "a0", "aA", "a_", "aa"},
	} {
		checkWrite(t, l, want)
		checkRead(t, want, l, api.OK)
	}
	for want, l := range map[string][]string{
		"lab;beamer":        {"lab", "beamer"},
		"b;a8..a11;a7;B;a6": {"b", "a8", "a9", "a10", "a11", "a7", "B", "a6"},
	} {
		checkWrite(t, l, want)
		checkReadFew(t, want, l, api.OK)
	}
}

func TestAscend(t *testing.T) {
	for s, want := range map[string]bool{
		"a": true, "a;b": true, "b;a": false, "a;a": false, "a;b;b": false, "a;c;b": false, "b;c;a": false, "B;a": true, "a;B": false,
		"a10;a9": true, "a9;a10": false, "a09;a9": true, "a;a-;a0;aA;a_;aa": true, "9;A": true, "a;b;c;d;e;f;h;g": false,
		"?": false, "": false, "_": false, "A;?": false, "?;z": false, "a;aaaaaaaaaaaaaaaaa": false, "a;aaaaaaaaaaaaaaaa": true, "a;\u00e9": false, "a;b c": false,
	} {
		if l := strings.Split(s, ";"); Ascend(l) != want {
			t.Errorf("Ascend(%q) is not %v", l, want)
		}
	}
	for n := range 100 {
		if !Ascend(numbered(n % 90)) {
			t.Errorf("%d codes do not ascend", n%90)
		}
	}
	if !Ascend(nil) || !Ascend([]string{}) {
		t.Error("no codes do not ascend")
	}
}

// The argument stays as it is, and results share no memory.
func TestMemory(t *testing.T) {
	l := []string{"a10", "a11", "a12", "b"}
	before := slices.Clone(l)
	Write(l)
	Ascend(l)
	if !slices.Equal(l, before) {
		t.Errorf("the list is %q now", l)
	}
	a, _ := Read("b;a")
	a[0] = "x"
	checkRead(t, "b;a", []string{"a", "b"}, api.OK)
	a, _ = ReadFew("b;a")
	a[0] = "x"
	checkReadFew(t, "b;a", []string{"b", "a"}, api.OK)
}
