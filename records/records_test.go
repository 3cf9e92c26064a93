package records

import (
	"fmt"
	"slices"
	"strings"
	"testing"

	"timetable/api"
)

var comma = api.Dialect{Delimiter: ',', Quote: '"'}

// shown writes a record as its line and, for each field, the column, the text and a q if it was quoted.
func shown(r api.Record) string {
	s := fmt.Sprint(r.Line)
	for _, f := range r.Fields {
		s += fmt.Sprintf(" %d%q", f.Column, f.Text)
		if f.Quoted {
			s += "q"
		}
	}
	return s
}

func checkParse(t *testing.T, text string, d api.Dialect, want []string, problems ...api.Problem) {
	t.Helper()
	l, p := Parse(text, d)
	var got []string
	for _, r := range l {
		got = append(got, shown(r))
	}
	if !slices.Equal(got, want) || !slices.Equal(p, problems) {
		t.Errorf("Parse(%.60q, %q) = %q, %v; want %q, %v", text, d, got, p, want, problems)
	}
}

func problem(line, column int, e api.Errno) api.Problem {
	return api.Problem{Line: line, Column: column, Code: e}
}

// P2.1: every delimiter with every quotation mark.
func TestValid(t *testing.T) {
	for delimiter := range 256 {
		for quote := range 256 {
			d := api.Dialect{Delimiter: byte(delimiter), Quote: byte(quote)}
			want := slices.Contains([]int{',', ';', '|', 9}, delimiter) && (quote == '"' || quote == '\'')
			if Valid(d) != want {
				t.Errorf("Valid(%q) = %v", d, !want)
			}
		}
	}
}

// P2.2: fields, their columns, and what is quoted.
func TestParseFields(t *testing.T) {
	for _, x := range []struct {
		text string
		want []string
	}{
		{"", nil},
		{"a", []string{`1 1"a"`}},
		{"a,b\n", []string{`1 1"a" 3"b"`}},
		{"a,\"b,c\",d\n", []string{`1 1"a" 3"b,c"q 9"d"`}},
		{",\n", []string{`1 1"" 2""`}},
		{"ab,,", []string{`1 1"ab" 4"" 5""`}},
		{"\"\"", []string{`1 1""q`}},
		{"\"\"\"\"\n", []string{`1 1"\""q`}},
		{"\"a\"\"b\"\"\",\"\"\"c\"", []string{`1 1"a\"b\""q 10"\"c"q`}},
		{"'a',b;c|d\te", []string{`1 1"'a'" 5"b;c|d\te"`}},
		{" a , b ", []string{`1 1" a " 5" b "`}},
		{"\u00e9,\xff,\x00", []string{`1 1"é" 4"\xff" 6"\x00"`}},
	} {
		checkParse(t, x.text, comma, x.want)
	}
}

// P2.2: every valid dialect.
func TestParseDialects(t *testing.T) {
	for _, delimiter := range []byte(delimiters) {
		for _, quote := range []byte(quotes) {
			other := "\"'"[1-strings.IndexByte(quotes, quote)]
			text := strings.NewReplacer("D", string(delimiter), "Q", string(quote), "O", string(other)).Replace("aDQbDQQcQDdOe")
			want := fmt.Sprintf("1 1%q 3%qq 11%q", "a", "b"+string(delimiter)+string(quote)+"c", "d"+string(other)+"e")
			checkParse(t, text, api.Dialect{Delimiter: delimiter, Quote: quote}, []string{want})
		}
	}
}

// P2.2: ends of lines, and lines that belong to no record.
func TestParseLines(t *testing.T) {
	for _, x := range []struct {
		text string
		want []string
	}{
		{"a\nb", []string{`1 1"a"`, `2 1"b"`}},
		{"a\r\nb\r", []string{`1 1"a"`, `2 1"b"`}},
		{"\n\r\n\r\na\n\n\r", []string{`4 1"a"`}},
		{"\r", nil},
		{"#a\n#\"\n#\r\nb\n#", []string{`4 1"b"`}},
		{" #a\na,#b\n\"#c\"", []string{`1 1" #a"`, `2 1"a" 3"#b"`, `3 1"#c"q`}},
		{"a\rb\r\r\n\rc,\r\n\r\r\n", []string{`1 1"a\rb\r"`, `2 1"\rc" 4""`, `3 1"\r"`}},
		{"a\r,\r\r", []string{`1 1"a\r" 4"\r"`}},
		{"\"a\"\r\n\"b\"\r", []string{`1 1"a"q`, `2 1"b"q`}},
		{"x,\"a\n#\r\n\nb\",c,\"\n\"\n\nd", []string{`1 1"x" 3"a\n#\r\n\nb"q 4"c" 6"\n"q`, `7 1"d"`}},
		{"a,\"b\r\"", []string{`1 1"a" 3"b\r"q`}},
	} {
		checkParse(t, x.text, comma, x.want)
	}
}

// P2.2: a quoted field that does not end takes the rest of the text with it.
func TestParseUnended(t *testing.T) {
	checkParse(t, "\"", comma, nil, problem(1, 1, api.ErrQuote))
	checkParse(t, "\"\"\"", comma, nil, problem(1, 1, api.ErrQuote))
	checkParse(t, "a\nb,\"c\nd\ne\"\"", comma, []string{`1 1"a"`}, problem(2, 3, api.ErrQuote))
	checkParse(t, "\"a\nb\",\"c\nd", comma, nil, problem(2, 4, api.ErrQuote))
	checkParse(t, "\"a\r", comma, nil, problem(1, 1, api.ErrQuote))
}

// P2.2: a quotation mark at a wrong place takes the rest of its line with it.
func TestParseQuotes(t *testing.T) {
	for _, x := range []struct {
		text         string
		line, column int
	}{
		{"a\"b\nd", 1, 2},
		{" \"\"\nd", 1, 2},
		{"x,ab\"c,\"\"\nd", 1, 5},
		{"\"a\"b,\"c\nd", 1, 4},
		{"\"a\" ,c\nd", 1, 4},
		{"\"a\"\rb\nd", 1, 4},
		{"\"a\"\r\r\nd", 1, 4},
		{"\"a\nb\"c\"\nd", 2, 3},
		{"a,\"\n\n\"\"x\",b\"\nd", 3, 7},
		{"a\"b\"\"\r\nd", 1, 2},
	} {
		want := fmt.Sprintf(`%d 1"d"`, strings.Count(x.text, "\n")+1)
		checkParse(t, x.text, comma, []string{want}, problem(x.line, x.column, api.ErrQuote))
	}
}

// P2.2: several problems stand in the order of the text, and only the first one of a record counts.
func TestParseProblems(t *testing.T) {
	checkParse(t, "a\"b\"c\nd\n\"e\"f\"\ng,\"h", comma, []string{`2 1"d"`},
		problem(1, 2, api.ErrQuote), problem(3, 4, api.ErrQuote), problem(4, 3, api.ErrQuote))
}

// P2.2: at most MaxFields fields.
func TestParseManyFields(t *testing.T) {
	full := strings.Repeat("a,", api.MaxFields-1)
	long := api.Record{Line: 1}
	for i := range api.MaxFields {
		long.Fields = append(long.Fields, api.Field{Text: "a", Column: 2*i + 1})
	}
	checkParse(t, full+"a\n"+full+"a,\nb", comma, []string{shown(long), `3 1"b"`}, problem(2, 25, api.ErrFields))
	checkParse(t, full+"a\"\nb", comma, []string{`2 1"b"`}, problem(1, 24, api.ErrQuote))
	checkParse(t, full+"a,b\"\nb", comma, []string{`2 1"b"`}, problem(1, 25, api.ErrFields))
	checkParse(t, full+"\"\n\",\"\nb\"", comma, nil, problem(2, 3, api.ErrFields), problem(3, 2, api.ErrQuote))
	checkParse(t, full+"a,\"b\nc", comma, []string{`2 1"c"`}, problem(1, 25, api.ErrFields))
	checkParse(t, strings.Repeat(",", 100)+"\r\nb", comma, []string{`2 1"b"`}, problem(1, 13, api.ErrFields))
}

// P2.2: at most MaxRecords records; those that are left out do not count.
func TestParseManyRecords(t *testing.T) {
	full := strings.Repeat("a\n", api.MaxRecords)
	for _, x := range []struct {
		text     string
		problems []api.Problem
	}{
		{full, nil},
		{full + "\n#b\n\r\n", nil},
		{full + "b", []api.Problem{problem(401, 1, api.ErrSize)}},
		{full + "\n#b\n\"\nb\"c\nd\"\n", []api.Problem{problem(403, 1, api.ErrSize)}},
		{"b\"\n" + full, []api.Problem{problem(1, 2, api.ErrQuote)}},
		{"b\"\n" + full + "\"", []api.Problem{problem(1, 2, api.ErrQuote), problem(402, 1, api.ErrSize)}},
	} {
		l, p := Parse(x.text, comma)
		if len(l) != api.MaxRecords || !slices.Equal(p, x.problems) {
			t.Errorf("%.10q, %d bytes: %d records, %v; want %v", x.text, len(x.text), len(l), p, x.problems)
		}
	}
}

// P2.2: what is not read at all; the dialect comes first.
func TestParseInvalid(t *testing.T) {
	long := strings.Repeat("a", api.MaxFile)
	checkParse(t, long+"a", comma, nil, problem(0, 0, api.ErrSize))
	checkParse(t, long+"a", api.Dialect{Delimiter: ',', Quote: ','}, nil, problem(0, 0, api.ErrInvalid))
	checkParse(t, "a", api.Dialect{}, nil, problem(0, 0, api.ErrInvalid))
	checkParse(t, "", api.Dialect{Delimiter: '\n', Quote: '"'}, nil, problem(0, 0, api.ErrInvalid))
	checkParse(t, long, comma, []string{fmt.Sprintf("1 1%q", long)})
	checkParse(t, long[1:]+"\"", comma, nil, problem(1, api.MaxFile, api.ErrQuote))
}

// R1: every text of five bytes of those that mean something.
func TestParseEverything(t *testing.T) {
	bytes := []byte("a,\"#\r\n")
	for i := range 6 * 6 * 6 * 6 * 6 {
		var text []byte
		for n := i; len(text) < 5; n /= 6 {
			text = append(text, bytes[n%6])
		}
		l, p := Parse(string(text), comma)
		for _, r := range l {
			if len(r.Fields) == 0 || r.Line < 1 || r.Line > 5 {
				t.Errorf("%q: %v", text, l)
			}
		}
		if len(l)+len(p) > 5 {
			t.Errorf("%q: %v, %v", text, l, p)
		}
	}
}

func checkFormat(t *testing.T, l [][]string, d api.Dialect, want string, e api.Errno) {
	t.Helper()
	if got, err := Format(l, d); got != want || err != e {
		t.Errorf("Format(%.60q, %q) = %.60q, %d; want %.60q, %d", l, d, got, err, want, e)
	}
}

// P2.3: which fields are quoted.
func TestFormat(t *testing.T) {
	for _, x := range []struct {
		l    [][]string
		want string
	}{
		{nil, ""},
		{[][]string{}, ""},
		{[][]string{{"a"}}, "a\n"},
		{[][]string{{""}}, "\"\"\n"},
		{[][]string{{"", ""}, {"", "", ""}}, ",\n,,\n"},
		{[][]string{{"a", "b,c", "d"}}, "a,\"b,c\",d\n"},
		{[][]string{{"#", "#"}, {"a#"}, {" #"}}, "\"#\",#\na#\n #\n"},
		{[][]string{{"\r", "\n", "a\r\nb"}}, "\"\r\",\"\n\",\"a\r\nb\"\n"},
		{[][]string{{"\"", "a\"\"b"}}, "\"\"\"\",\"a\"\"\"\"b\"\n"},
		{[][]string{{"a'b;c|d\te f", "\xff"}}, "a'b;c|d\te f,\xff\n"},
	} {
		checkFormat(t, x.l, comma, x.want, api.OK)
	}
	checkFormat(t, [][]string{{"a;b", "c,d\"", "e'f"}}, api.Dialect{Delimiter: ';', Quote: '\''}, "'a;b';c,d\";'e''f'\n", api.OK)
}

// P2.3: each error, and which one is returned.
func TestFormatErrors(t *testing.T) {
	fields := func(n int) []string { return make([]string, n) }
	many := make([][]string, api.MaxRecords+1)
	long := strings.Repeat("a", api.MaxFile)
	full := slices.Repeat([][]string{{"a"}}, api.MaxRecords)
	checkFormat(t, many, api.Dialect{Delimiter: ','}, "", api.ErrInvalid)
	checkFormat(t, many, comma, "", api.ErrSize)
	checkFormat(t, many[1:], comma, "", api.ErrEmpty)
	checkFormat(t, full, comma, strings.Repeat("a\n", api.MaxRecords), api.OK)
	checkFormat(t, append(full, []string{"a"}), comma, "", api.ErrSize)
	checkFormat(t, [][]string{fields(api.MaxFields)}, comma, strings.Repeat(",", api.MaxFields-1)+"\n", api.OK)
	checkFormat(t, [][]string{fields(api.MaxFields + 1), {}}, comma, "", api.ErrSize)
	checkFormat(t, [][]string{{}, fields(api.MaxFields + 1)}, comma, "", api.ErrEmpty)
	checkFormat(t, [][]string{{long}, {}}, comma, "", api.ErrEmpty)
	checkFormat(t, [][]string{{long}}, comma, "", api.ErrSize)
	checkFormat(t, [][]string{{long[1:]}}, comma, long[1:]+"\n", api.OK)
	checkFormat(t, [][]string{{long[1:]}, {"a"}}, comma, "", api.ErrSize)
	checkFormat(t, [][]string{{long[3:] + ","}}, comma, "", api.ErrSize)
	checkFormat(t, [][]string{{long[4:] + ","}}, comma, "\""+long[4:]+",\"\n", api.OK)
}

// Consequences: Parse of Format.
func TestParseOfFormat(t *testing.T) {
	fields := []string{"", "a", "#", "\"", "'", ",", ";\t|", "\r", "\n", "\r\n", "\n#\"a\"\n", "é\xff"}
	var l [][]string
	for _, x := range fields {
		l = append(l, []string{x})
		for _, y := range fields {
			l = append(l, []string{x, y}, []string{x, y, x})
		}
	}
	for _, delimiter := range []byte(delimiters) {
		for _, quote := range []byte(quotes) {
			checkRound(t, l, api.Dialect{Delimiter: delimiter, Quote: quote})
		}
	}
}

func checkRound(t *testing.T, l [][]string, d api.Dialect) {
	t.Helper()
	text, e := Format(l, d)
	got, problems := Parse(text, d)
	if e != api.OK || len(problems) > 0 || len(got) != len(l) {
		t.Fatalf("%q: %d, %d records, %v", d, e, len(got), problems)
	}
	for i, r := range got {
		var texts []string
		for _, f := range r.Fields {
			texts = append(texts, f.Text)
		}
		if !slices.Equal(texts, l[i]) {
			t.Errorf("%q: %q, want %q", d, texts, l[i])
		}
	}
}

// R2: results share no memory, and Format leaves its argument as it is.
func TestMemory(t *testing.T) {
	a, _ := Parse("a,b\nc", comma)
	a[0].Fields = append(a[0].Fields, api.Field{Text: "x"})
	a[0].Fields[0].Text = "y"
	checkParse(t, "a,b\nc", comma, []string{`1 1"a" 3"b"`, `2 1"c"`})
	if shown(a[1]) != `2 1"c"` {
		t.Error("records share their fields")
	}
	l := [][]string{{"a,b", "#"}, {""}}
	Format(l, comma)
	if l[0][0] != "a,b" || l[0][1] != "#" || l[1][0] != "" {
		t.Errorf("Format changed its argument: %q", l)
	}
}
