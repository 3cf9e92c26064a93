package entries

import (
	"slices"
	"testing"

	"timetable/api"
)

// name is an entry of two fields, neither of which is empty.
type name struct{ first, last string }

func readName(x *name, i int, s string) api.Errno {
	if s == "" {
		return api.ErrEmpty
	}
	switch i {
	case 0:
		x.first = s
	case 1:
		x.last = s
	}
	return api.OK
}

func takeAll(name) api.Errno { return api.OK }

// record returns a record whose fields are in the columns 10, 20 and so on.
func record(line int, texts ...string) api.Record {
	r := api.Record{Line: line}
	for i, s := range texts {
		r.Fields = append(r.Fields, api.Field{Text: s, Column: 10 * (i + 1)})
	}
	return r
}

func check(t *testing.T, l []name, problems []api.Problem, want []name, wantProblems []api.Problem) {
	t.Helper()
	if !slices.Equal(l, want) {
		t.Errorf("entries %v, want %v", l, want)
	}
	if !slices.Equal(problems, wantProblems) {
		t.Errorf("problems %v, want %v", problems, wantProblems)
	}
}

func TestRead(t *testing.T) {
	l, problems := Read([]api.Record{record(1, "a", "b"), record(2, "c", "d"), record(5, "a", "b")}, 2, readName, takeAll)
	check(t, l, problems, []name{{"a", "b"}, {"c", "d"}, {"a", "b"}}, nil)
	l, problems = Read(nil, 2, readName, takeAll)
	check(t, l, problems, nil, nil)
}

func TestReadFields(t *testing.T) {
	l, problems := Read([]api.Record{
		record(1), record(2, "a"), record(3, "a", "b"), record(4, "a", "b", "c"), record(5, ""), record(6, "", "", ""),
		record(7, "", "b"), record(8, "a", ""), record(9, "", ""), record(10, "c", "d"), {Line: -1}, {},
	}, 2, readName, takeAll)
	check(t, l, problems, []name{{"a", "b"}, {"c", "d"}}, []api.Problem{
		{Line: 1, Code: api.ErrFields}, {Line: 2, Code: api.ErrFields}, {Line: 4, Code: api.ErrFields}, {Line: 5, Code: api.ErrFields}, {Line: 6, Code: api.ErrFields},
		{Line: 7, Column: 10, Code: api.ErrEmpty}, {Line: 8, Column: 20, Code: api.ErrEmpty}, {Line: 9, Column: 10, Code: api.ErrEmpty},
		{Line: -1, Code: api.ErrFields}, {Code: api.ErrFields},
	})
}

// What accept is asked about, and what becomes of its answers.
func TestReadAccept(t *testing.T) {
	var asked []name
	accept := func(x name) api.Errno {
		asked = append(asked, x)
		switch x.last {
		case "dup":
			return api.ErrDuplicate
		case "size":
			return api.ErrSize
		}
		return api.OK
	}
	l, problems := Read([]api.Record{record(1, "a", "dup"), record(2, "b", "ok"), record(3, "c"), record(4, "", "dup"), record(5, "d", ""), record(6, "e", "size"), record(7, "f", "ok")}, 2, readName, accept)
	check(t, l, problems, []name{{"b", "ok"}, {"f", "ok"}}, []api.Problem{
		{Line: 1, Code: api.ErrDuplicate}, {Line: 3, Code: api.ErrFields}, {Line: 4, Column: 10, Code: api.ErrEmpty}, {Line: 5, Column: 20, Code: api.ErrEmpty}, {Line: 6, Code: api.ErrSize},
	})
	if want := []name{{"a", "dup"}, {"b", "ok"}, {"e", "size"}, {"f", "ok"}}; !slices.Equal(asked, want) {
		t.Errorf("asked about %v, want %v", asked, want)
	}
}

// An entry begins empty, whatever was read before it.
func TestReadFresh(t *testing.T) {
	first := func(x *name, i int, s string) api.Errno {
		if i == 0 && s != "" {
			x.first = s
		}
		return api.OK
	}
	l, problems := Read([]api.Record{record(1, "a"), record(2, ""), record(3, "b")}, 1, first, takeAll)
	check(t, l, problems, []name{{first: "a"}, {}, {first: "b"}}, nil)
}

func fieldsOfName(x name) []string { return []string{x.first, x.last} }

func TestWrite(t *testing.T) {
	for _, x := range []struct {
		l    []name
		e    api.Errno
		want [][]string
	}{
		{nil, api.OK, nil},
		{[]name{}, api.OK, nil},
		{[]name{{"a", "b"}}, api.OK, [][]string{{"a", "b"}}},
		{[]name{{"c", "d"}, {"", ""}, {"a", "b"}, {"c", "d"}}, api.OK, [][]string{{"c", "d"}, {"", ""}, {"a", "b"}, {"c", "d"}}},
		{nil, api.ErrInvalid, nil},
		{[]name{{"a", "b"}}, api.ErrSize, nil},
	} {
		if w, e := Write(x.l, x.e, fieldsOfName); e != x.e || !slices.EqualFunc(w, x.want, slices.Equal) {
			t.Errorf("Write(%q, %d) = %q, %d; want %q", x.l, x.e, w, e, x.want)
		}
	}
}

// Of entries with an error no fields are asked for: they may have none.
func TestWriteError(t *testing.T) {
	asked := 0
	count := func(name) []string {
		asked++
		return nil
	}
	Write([]name{{"a", "b"}, {"c", "d"}}, api.ErrCode, count)
	if asked != 0 {
		t.Errorf("asked for the fields of %d entries with an error", asked)
	}
}

// noLast is the error of a name alone.
func noLast(x name) api.Errno {
	if x.last == "" {
		return api.ErrEmpty
	}
	return api.OK
}

func first(x name) string { return x.first }

func TestCheck(t *testing.T) {
	for i, x := range []struct {
		l    []name
		most int
		want api.Errno
	}{
		{nil, 0, api.OK},
		{nil, 2, api.OK},
		{[]name{{"a", "b"}}, 0, api.ErrSize},
		{[]name{{"a", "b"}, {"c", "d"}}, 2, api.OK},
		{[]name{{"a", "b"}, {"c", "d"}}, 1, api.ErrSize},
		{[]name{{"a", ""}, {"a", ""}, {"a", ""}}, 2, api.ErrSize},
		{[]name{{"a", "b"}, {"c", ""}}, 2, api.ErrEmpty},
		{[]name{{"a", "b"}, {"a", "d"}}, 2, api.ErrDuplicate},
		{[]name{{"a", "b"}, {"a", ""}}, 2, api.ErrEmpty},
		{[]name{{"a", ""}, {"a", "b"}}, 2, api.ErrEmpty},
		{[]name{{"a", "b"}, {"a", "c"}, {"d", ""}}, 3, api.ErrDuplicate},
		{[]name{{"a", "b"}, {"d", ""}, {"a", "c"}}, 3, api.ErrEmpty},
	} {
		if e := Check(x.l, x.most, noLast, Distinct(9, first)); e != x.want {
			t.Errorf("%d: Check(%v) = %d, want %d", i, x.l, e, x.want)
		}
	}
}

// Entries with an error are not asked about, nor those behind them.
func TestCheckAccept(t *testing.T) {
	var asked []name
	accept := func(x name) api.Errno {
		asked = append(asked, x)
		return api.OK
	}
	if e := Check([]name{{"a", "b"}, {"c", "d"}, {"e", ""}, {"f", "g"}}, 4, noLast, accept); e != api.ErrEmpty || !slices.Equal(asked, []name{{"a", "b"}, {"c", "d"}}) {
		t.Errorf("Check: %d, asked about %v", e, asked)
	}
}

func TestDistinct(t *testing.T) {
	accept := Distinct(2, first)
	for i, x := range []struct {
		entry name
		want  api.Errno
	}{
		{name{"a", "b"}, api.OK}, {name{"a", "c"}, api.ErrDuplicate}, {name{"", "b"}, api.OK}, {name{"A", "b"}, api.ErrSize},
		{name{"a", "b"}, api.ErrDuplicate}, {name{"", ""}, api.ErrDuplicate}, {name{"A", "b"}, api.ErrSize},
	} {
		if e := accept(x.entry); e != x.want {
			t.Errorf("%d: %v has the error %d, want %d", i, x.entry, e, x.want)
		}
	}
	if e := Distinct(0, first)(name{}); e != api.ErrSize {
		t.Errorf("none is accepted: %d", e)
	}
	whole := Distinct(9, func(x name) name { return x })
	for i, x := range []name{{"a", "b"}, {"a", "c"}, {"b", "c"}, {"a", "c"}} {
		want := api.OK
		if i == 3 {
			want = api.ErrDuplicate
		}
		if e := whole(x); e != want {
			t.Errorf("%v as its own key has the error %d, want %d", x, e, want)
		}
	}
}

func TestReadCode(t *testing.T) {
	for _, s := range []string{"a", "9", "A-", "a_1", "abcdefghijklmnop"} {
		if code, e := ReadCode(s); code != s || e != api.OK {
			t.Errorf("ReadCode(%q) = %q, %d", s, code, e)
		}
	}
	for _, s := range []string{"", "?", "_a", "a b", " a", "a;b", "a\n", "\u00e9", "abcdefghijklmnopq"} {
		if code, e := ReadCode(s); code != "" || e != api.ErrCode {
			t.Errorf("ReadCode(%q) = %q, %d", s, code, e)
		}
	}
}

// readLetter reads one letter.
func readLetter(s string) (byte, api.Errno) {
	switch {
	case s == "":
		return '!', api.ErrEmpty
	case len(s) > 1:
		return '!', api.ErrForm
	}
	return s[0], api.OK
}

func TestReadParts(t *testing.T) {
	for _, x := range []struct {
		s, separator string
		most         int
		want         string
		e            api.Errno
	}{
		{"a", ";", 1, "a", api.OK},
		{"a;b;a", ";", 3, "aba", api.OK},
		{"a;b;a", ";", 4, "aba", api.OK},
		{"a/b", "/", 2, "ab", api.OK},
		{";/;", "/", 2, ";;", api.OK},
		{"a--b", "--", 2, "ab", api.OK},
		{"a;b;a", ";", 2, "", api.ErrSize},
		{"a", ";", 0, "", api.ErrSize},
		{"", ";", 9, "", api.ErrEmpty},
		{"", ";", 0, "", api.ErrEmpty},
		{"a;", ";", 9, "", api.ErrEmpty},
		{";a", ";", 9, "", api.ErrEmpty},
		{"a;;a", ";", 9, "", api.ErrEmpty},
		{"a;b", "/", 9, "", api.ErrForm},
		{"a;bb;", ";", 9, "", api.ErrForm},
		{"a;;bb", ";", 9, "", api.ErrEmpty},
		{"a;b;a;bb", ";", 2, "", api.ErrForm},
		{"a;b;a;", ";", 3, "", api.ErrEmpty},
	} {
		if l, e := ReadParts(x.s, x.separator, x.most, readLetter); string(l) != x.want || e != x.e {
			t.Errorf("ReadParts(%q, %q, %d) = %q, %d; want %q, %d", x.s, x.separator, x.most, l, e, x.want, x.e)
		}
	}
}

// Parts behind one with an error are not read.
func TestReadPartsFirst(t *testing.T) {
	var asked []string
	readPart := func(s string) (int, api.Errno) {
		asked = append(asked, s)
		if s == "x" {
			return 1, api.ErrCode
		}
		return 0, api.OK
	}
	if l, e := ReadParts("a;b;x;c;x", ";", 9, readPart); len(l) > 0 || e != api.ErrCode || !slices.Equal(asked, []string{"a", "b", "x"}) {
		t.Errorf("ReadParts: %v, %d, asked about %v", l, e, asked)
	}
}
