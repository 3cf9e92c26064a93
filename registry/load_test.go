package registry

import (
	"cmp"
	"fmt"
	"slices"
	"strings"
	"testing"

	"timetable/api"
)

// checkLoad checks what is loaded with the grid and the term of the registry that is wanted.
func checkLoad(t *testing.T, files []string, want api.Registry, problems []api.Problem) {
	t.Helper()
	r, p := Load(files, want.Grid, want.Term)
	checkRegistry(t, r, want)
	if !slices.Equal(p, problems) {
		t.Errorf("problems %v, want %v", p, problems)
	}
	if e := Check(r); e != api.OK {
		t.Errorf("the registry has the error %d", e)
	}
}

// checkSmall checks that files say what the small registry says, but for a change.
func checkSmall(t *testing.T, files []string, change func(r *api.Registry), problems ...api.Problem) {
	t.Helper()
	want := small()
	change(&want)
	checkLoad(t, files, want, problems)
}

func unchanged(*api.Registry) {}

func problem(file, line, column int, e api.Errno) api.Problem {
	return api.Problem{File: file, Line: line, Column: column, Code: e}
}

// P13.2: what the files say.
func TestLoad(t *testing.T) {
	checkSmall(t, smallFiles(), unchanged)
	checkLoad(t, make([]string, 6), api.Registry{Grid: grid(), Term: term()}, nil)
	files := smallFiles()
	for i, s := range files {
		files[i] = "# file\r\n\r\n" + strings.ReplaceAll(s, "\n", "\r\n\n")
	}
	checkSmall(t, files, unchanged)
	checkLoad(t, slices.Repeat([]string{"#\n\r\n\n#"}, 6), api.Registry{Grid: grid(), Term: term()}, nil)
}

// P13.2: no registry at all; nothing else is a problem then.
func TestLoadInvalid(t *testing.T) {
	refused := func(files []string, g api.Grid, term api.Term) {
		t.Helper()
		r, p := Load(files, g, term)
		checkRegistry(t, r, api.Registry{})
		if !slices.Equal(p, []api.Problem{{Code: api.ErrInvalid}}) {
			t.Errorf("%d files, %v, %v: problems %v", len(files), g, term, p)
		}
	}
	damaged := slices.Repeat([]string{"a\"b"}, 6)
	for _, g := range []api.Grid{{}, {Days: 8, Slots: 10, Begin: 480, Minutes: 45}, {Days: 5, Slots: 25, Minutes: 5}, {Days: 5, Slots: 10, Begin: -1, Minutes: 45}, {Days: 5, Slots: 24, Begin: 480, Minutes: 45}} {
		refused(smallFiles(), g, term())
		refused(damaged, g, term())
		refused(nil, g, api.Term{})
	}
	for _, x := range []api.Term{{}, {First: 3, Weeks: 10}, {First: 2, Weeks: 21}, {First: 2, Weeks: -1}, {First: 36520, Weeks: 2}, {First: 2, Weeks: 10, Holidays: []int{72}}, {First: 2, Weeks: 10, Holidays: []int{4, 4}}} {
		refused(smallFiles(), grid(), x)
		refused(damaged, grid(), x)
	}
	for n := range 14 {
		if n != 6 {
			refused(slices.Repeat(smallFiles(), 3)[:n], grid(), term())
			refused(slices.Repeat(damaged, 3)[:n], grid(), term())
		}
	}
}

// P13.2: the number of weeks is that of the term, and the grid is the one that is given.
func TestLoadFrame(t *testing.T) {
	files := make([]string, 6)
	files[0] = "R1,B,30,,\"Sa 1,Mo 1\"\nR2,B,30,,Sa 1\nR3,B,30,,Mo 1 11\nR4,B,30,,Mo 12\n"
	files[2] = "t1,Sa 1\nt2,Mo 1 11\nt3,Mo 12\n"
	files[3] = "L1,C,p,12,all,0,,,\nL2,C,p,1,11,0,,,\nL3,C,p,1,all,0,,,Sa 1\n"
	_, p := Load(files, grid(), term())
	want := []api.Problem{
		problem(1, 1, 10, api.ErrForm), problem(1, 2, 10, api.ErrTime), problem(1, 3, 10, api.ErrRange), problem(1, 4, 10, api.ErrTime),
		problem(3, 1, 4, api.ErrTime), problem(3, 2, 4, api.ErrRange), problem(3, 3, 4, api.ErrTime),
		problem(4, 1, 8, api.ErrRange), problem(4, 2, 10, api.ErrRange), problem(4, 3, 18, api.ErrTime),
	}
	if !slices.Equal(p, want) {
		t.Errorf("problems %v, want %v", p, want)
	}
	r, p := Load(files, api.Grid{Days: 6, Slots: 12, Minutes: 30}, api.Term{First: 9, Weeks: 11})
	if !slices.Equal(p, want[:1]) || len(r.Rooms) != 3 || len(r.Staff) != 3 || len(r.Classes) != 3 || r.Grid.Minutes != 30 || r.Term.Weeks != 11 || Check(r) != api.OK {
		t.Errorf("%s, problems %v", shown(r), p)
	}
}

// P13.2: the dialect, whatever other ones there are.
func TestLoadDialect(t *testing.T) {
	files := smallFiles()
	files[0] = "\"R1\",\"B\",30,\"beamer;lab\",\"Mo 1-2 1,3,5,7,9\"\nR2,C,20,,\"\"\nR3|C|20||\n"
	files[1] = "\"B\",C,\"2\"\nA;B;1\n'A',B,1\nA\tB\t1\n"
	checkSmall(t, files, unchanged,
		problem(1, 3, 0, api.ErrFields), problem(2, 2, 0, api.ErrFields), problem(2, 3, 1, api.ErrCode), problem(2, 4, 0, api.ErrFields))
}

// P13.2: damage in each file, before and behind what is not harmed by it, has its number, line and column.
func TestLoadDamage(t *testing.T) {
	for i := range 6 {
		file := i + 1
		for _, x := range []struct {
			text         string
			line, column int
			e            api.Errno
		}{
			{"x\n", 1, 0, api.ErrFields},
			{"#\n\na\"b\n", 3, 2, api.ErrQuote},
			{"\"a\n\n\"b\n", 3, 2, api.ErrQuote},
			{",,,,,,,,,,,,,\n", 1, 13, api.ErrFields},
			{"\"a\n\n\",,,,,,,,,,,,\"\n", 3, 14, api.ErrFields},
		} {
			files := smallFiles()
			before := strings.Count(files[i], "\n")
			files[i] = x.text + files[i] + x.text
			lines := strings.Count(x.text, "\n")
			checkSmall(t, files, unchanged, problem(file, x.line, x.column, x.e), problem(file, lines+before+x.line, x.column, x.e))
		}
		files := smallFiles()
		files[i] += "\"a"
		checkSmall(t, files, unchanged, problem(file, strings.Count(files[i], "\n")+1, 1, api.ErrQuote))
	}
}

// P13.2: a file that is too long is left out as a whole.
func TestLoadLong(t *testing.T) {
	without := []func(r *api.Registry){
		func(r *api.Registry) { r.Rooms = nil },
		func(r *api.Registry) { r.Travel = api.Travel{} },
		func(r *api.Registry) {
			r.Staff, r.Classes, r.Curricula, r.Requests = nil, r.Classes[3:], r.Curricula[1:], nil
		},
		func(r *api.Registry) { r.Classes, r.Curricula, r.Requests = nil, nil, nil },
		func(r *api.Registry) { r.Curricula = nil },
		func(r *api.Registry) { r.Requests = nil },
	}
	unknown := [6][]api.Problem{
		2: {problem(4, 1, 0, api.ErrUnknown), problem(4, 2, 0, api.ErrUnknown), problem(4, 3, 0, api.ErrUnknown), problem(5, 1, 0, api.ErrUnknown), problem(6, 1, 0, api.ErrUnknown), problem(6, 2, 0, api.ErrUnknown), problem(6, 3, 0, api.ErrUnknown)},
		3: {problem(5, 1, 0, api.ErrUnknown), problem(5, 2, 0, api.ErrUnknown), problem(6, 1, 0, api.ErrUnknown), problem(6, 2, 0, api.ErrUnknown), problem(6, 3, 0, api.ErrUnknown)},
	}
	for i := range 6 {
		files := smallFiles()
		files[i] += strings.Repeat("#", api.MaxFile-len(files[i]))
		checkSmall(t, files, unchanged)
		files[i] += "#"
		checkSmall(t, files, without[i], append([]api.Problem{problem(i+1, 0, 0, api.ErrSize)}, unknown[i]...)...)
	}
}

// P13.2: more records than are read.
func TestLoadMany(t *testing.T) {
	for i := range 6 {
		files := smallFiles()
		n := strings.Count(files[i], "\n")
		files[i] += strings.Repeat("?\n", 400-n)
		var want []api.Problem
		for line := n + 1; line <= 400; line++ {
			want = append(want, problem(i+1, line, 0, api.ErrFields))
		}
		checkSmall(t, files, unchanged, want...)
		files[i] += "#\n?\n?\n"
		checkSmall(t, files, unchanged, append(want, problem(i+1, 402, 1, api.ErrSize))...)
	}
}

// P13.2: problems that are found one after the other stand in the order of their places.
func TestLoadOrder(t *testing.T) {
	files := smallFiles()
	for i := range files {
		files[i] = "x\na\"b\nx\n\"a\nb\"\n\"a\n\"b\n" + files[i] + "x\n\"a"
	}
	files[3] = "E9,MA,p,1,all,0,,eve,\na\"\n" + files[3]
	files[4] = "x,XX\na\"\n" + files[4]
	files[5] = "x,XX,1,\na\"\n" + files[5]
	var want []api.Problem
	for i, n := range []int{2, 1, 2, 4, 2, 3} {
		first := 0
		if i >= 3 {
			first = 2
			want = append(want, problem(i+1, 1, 0, api.ErrUnknown), problem(i+1, 2, 2, api.ErrQuote))
		}
		want = append(want,
			problem(i+1, first+1, 0, api.ErrFields), problem(i+1, first+2, 2, api.ErrQuote), problem(i+1, first+3, 0, api.ErrFields), problem(i+1, first+4, 0, api.ErrFields), problem(i+1, first+7, 2, api.ErrQuote),
			problem(i+1, first+8+n, 0, api.ErrFields), problem(i+1, first+9+n, 1, api.ErrQuote))
	}
	checkSmall(t, files, unchanged, want...)
}

// P13.2, examples: classes of which somebody is not known, and what is lost by that.
func TestLoadUnknown(t *testing.T) {
	files := smallFiles()
	files[2] = "ada,We 1-4\n"
	checkSmall(t, files, func(r *api.Registry) {
		r.Staff = r.Staff[:1]
		r.Classes = []api.Class{r.Classes[0], r.Classes[3]}
		r.Curricula = r.Curricula[1:]
		r.Requests = r.Requests[:1]
	}, problem(4, 2, 0, api.ErrUnknown), problem(4, 3, 0, api.ErrUnknown), problem(5, 1, 0, api.ErrUnknown), problem(6, 2, 0, api.ErrUnknown), problem(6, 3, 0, api.ErrUnknown))
	files[2] = "ada,We 1-4\nbob,?\n" // who was not read is not known
	checkSmall(t, files, func(r *api.Registry) {
		r.Staff = r.Staff[:1]
		r.Classes = []api.Class{r.Classes[0], r.Classes[3]}
		r.Curricula = r.Curricula[1:]
		r.Requests = r.Requests[:1]
	}, problem(3, 2, 5, api.ErrForm), problem(4, 2, 0, api.ErrUnknown), problem(4, 3, 0, api.ErrUnknown), problem(5, 1, 0, api.ErrUnknown), problem(6, 2, 0, api.ErrUnknown), problem(6, 3, 0, api.ErrUnknown))
}

// P13.2: curricula and requests need all their courses, but a course needs only one of its classes, and a request no curriculum.
func TestLoadUnknownCourses(t *testing.T) {
	files := smallFiles()
	files[3] = strings.Replace(files[3], "ada,Mo 3", "eve,Mo 3", 1)
	checkSmall(t, files, func(r *api.Registry) { r.Classes = r.Classes[1:] }, problem(4, 1, 0, api.ErrUnknown))
	files = smallFiles()
	files[3] = strings.Replace(files[3], "L2,PH", "L2,?", 1)
	checkSmall(t, files, func(r *api.Registry) {
		r.Classes = slices.Delete(r.Classes, 1, 2)
		r.Curricula, r.Requests = r.Curricula[1:], r.Requests[:1]
	}, problem(4, 2, 4, api.ErrCode), problem(5, 1, 0, api.ErrUnknown), problem(6, 2, 0, api.ErrUnknown), problem(6, 3, 0, api.ErrUnknown))
	files = smallFiles()
	files[3] = strings.Replace(files[3], "S1,CH,sem,10,1,0,,,", "S1,CH,sem,10,1,0,,adam,", 1)
	checkSmall(t, files, func(r *api.Registry) {
		r.Classes, r.Curricula, r.Requests = r.Classes[:3], r.Curricula[:1], r.Requests[:1]
	}, problem(4, 4, 0, api.ErrUnknown), problem(5, 2, 0, api.ErrUnknown), problem(6, 2, 0, api.ErrUnknown), problem(6, 3, 0, api.ErrUnknown))
	files = smallFiles()
	files[4] = "cs,?\nch,XX\n"
	checkSmall(t, files, func(r *api.Registry) { r.Curricula = nil }, problem(5, 1, 4, api.ErrCode), problem(5, 2, 0, api.ErrUnknown))
}

// P13.2: the codes must be the same, and of the right kind.
func TestLoadUnknownCodes(t *testing.T) {
	for _, code := range []string{"eve", "a", "ad", "ada0", "Ada", "R1", "B", "L1", "MA", "lec", "cs", "s1", "beamer"} {
		files := smallFiles()
		files[3] += "X1,MA,lec,1,all,0,," + code + ",\nX2,MA,lec,1,all,0,,bob;ada;" + code + ",\n"
		checkSmall(t, files, unchanged, problem(4, 5, 0, api.ErrUnknown), problem(4, 6, 0, api.ErrUnknown))
	}
	for _, code := range []string{"XX", "M", "MA1", "ma", "L1", "lec", "ada", "R1", "cs", "s1", "beamer"} {
		files := smallFiles()
		files[4] += "x1," + code + "\nx2,MA;" + code + "\nx3," + code + ";PH\n"
		files[5] += "s3," + code + ",1,\ns3,PH,1," + code + "\ns4,PH,1,CH;" + code + "\ns4," + code + ",1,PH\n"
		checkSmall(t, files, unchanged, problem(5, 3, 0, api.ErrUnknown), problem(5, 4, 0, api.ErrUnknown), problem(5, 5, 0, api.ErrUnknown),
			problem(6, 4, 0, api.ErrUnknown), problem(6, 5, 0, api.ErrUnknown), problem(6, 6, 0, api.ErrUnknown), problem(6, 7, 0, api.ErrUnknown))
	}
}

// P13.2: the lines are those at which the records begin, whatever stands between them.
func TestLoadLines(t *testing.T) {
	files := smallFiles()
	files[3] = "#\n\nX1,MA,lec,1,all,0,,eve,\n\"X\n2\",MA,lec,1,all,0,,eve,\nX3,MA\na\"b\n" + files[3] + "#\nX4,MA,lec,1,all,0,,\"eve\",\"\"\n\"a\n\n\"b\nX5,MA,lec,1,all,0,,eve,\n"
	files[4] = "\"x\n\n\",MA\n\"x1\",XX\n" + files[4] + "x2,\"XX\"\ncs,MA\nx3,XX\n"
	files[5] = "\"x\n\n\",MA,1,\n\"x1\",XX,1,\n" + files[5] + "x2,\"XX\",1,\ns1,MA,1,\nx3,XX,1,\n"
	checkSmall(t, files, unchanged,
		problem(4, 3, 0, api.ErrUnknown), problem(4, 4, 1, api.ErrCode), problem(4, 6, 0, api.ErrFields), problem(4, 7, 2, api.ErrQuote),
		problem(4, 13, 0, api.ErrUnknown), problem(4, 16, 2, api.ErrQuote), problem(4, 17, 0, api.ErrUnknown),
		problem(5, 1, 1, api.ErrCode), problem(5, 4, 0, api.ErrUnknown), problem(5, 7, 0, api.ErrUnknown), problem(5, 8, 0, api.ErrDuplicate), problem(5, 9, 0, api.ErrUnknown),
		problem(6, 1, 1, api.ErrCode), problem(6, 4, 0, api.ErrUnknown), problem(6, 8, 0, api.ErrUnknown), problem(6, 9, 0, api.ErrDuplicate), problem(6, 10, 0, api.ErrUnknown))
}

// P13.2: what is left out at the end was read before, and counts there.
func TestLoadReadFirst(t *testing.T) {
	files := smallFiles()
	files[3] = "L1,MA,lec,1,all,0,,eve,\n" + files[3]
	files[4] = "ch,XX\n" + files[4]
	files[5] = "s2,PH,1,XX\n" + files[5]
	checkSmall(t, files, func(r *api.Registry) {
		r.Classes, r.Curricula, r.Requests = r.Classes[1:], r.Curricula[:1], r.Requests[:2]
	},
		problem(4, 1, 0, api.ErrUnknown), problem(4, 2, 0, api.ErrDuplicate), problem(5, 1, 0, api.ErrUnknown), problem(5, 3, 0, api.ErrDuplicate), problem(6, 1, 0, api.ErrUnknown), problem(6, 4, 0, api.ErrDuplicate))
}

// P13.2: what is left out at the end takes the place of others, which are too many.
func TestLoadReadMany(t *testing.T) {
	files := smallFiles()
	var want []api.Problem
	before := func(file, n int, format string) {
		var text strings.Builder
		for i := range n {
			fmt.Fprintf(&text, format, i)
			want = append(want, problem(file, i+1, 0, api.ErrUnknown))
		}
		files[file-1] = text.String() + files[file-1]
	}
	before(api.FileClasses, 21, "X%d,MA,lec,1,all,0,,eve,\n")
	want = append(want, problem(4, 25, 0, api.ErrSize))
	before(api.FileCurricula, 15, "x%d,XX\n")
	want = append(want, problem(5, 17, 0, api.ErrSize))
	before(api.FileRequests, 63, "x%d,XX,1,\n")
	want = append(want, problem(6, 65, 0, api.ErrUnknown), problem(6, 66, 0, api.ErrSize)) // the seminar, which is too much, would do instead
	checkSmall(t, files, func(r *api.Registry) {
		r.Classes, r.Curricula, r.Requests = r.Classes[:3], r.Curricula[:1], r.Requests[:1]
	}, want...)
}

// line is a record of a file with its first code, the codes that it gives, and those that it needs.
type line struct {
	text, gives string
	needs       []string
}

// P13.2 in another reading: every set of lines of four files.
func TestLoadEverything(t *testing.T) {
	all := [][]line{
		{{"a,", "a", nil}, {"b,", "b", nil}},
		{{"K1,A,p,1,all,0,,a,", "A", []string{"a"}}, {"K2,A,q,1,all,0,,b,", "A", []string{"b"}}, {"K3,B,p,1,all,0,,a;b,", "B", []string{"a", "b"}}, {"K4,C,p,1,all,0,,,", "C", nil}},
		{{"u1,A", "", []string{"A"}}, {"u2,A;B", "", []string{"A", "B"}}, {"u3,C;B;A", "", []string{"C", "B", "A"}}},
		{{"s,A,1,", "", []string{"A"}}, {"s,B,1,C", "", []string{"B", "C"}}, {"s,C,1,A;B", "", []string{"C", "A", "B"}}, {"v,C,1,", "", []string{"C"}}},
	}
	for set := range 1 << 13 {
		files, stay, known := make([]string, 6), make([][]string, 4), []string{}
		var want []api.Problem
		rest := set
		for i, lines := range all {
			gives, n := []string{}, 0
			for _, x := range lines {
				if rest&1 == 1 {
					n++
					files[i+2] += x.text + "\n"
					if slices.ContainsFunc(x.needs, func(s string) bool { return !slices.Contains(known, s) }) {
						want = append(want, problem(i+3, n, 0, api.ErrUnknown))
					} else {
						stay[i], gives = append(stay[i], strings.Split(x.text, ",")[0]), append(gives, x.gives)
					}
				}
				rest >>= 1
			}
			if i < 2 {
				known = gives
			}
		}
		r, p := Load(files, grid(), term())
		if !slices.EqualFunc(namesOf(r), stay, slices.Equal) || !slices.Equal(p, want) || Check(r) != api.OK {
			t.Fatalf("%q: %v, %v; want %v, %v", files, namesOf(r), p, stay, want)
		}
	}
}

// namesOf returns the first codes of lecturers, classes, curricula and requests.
func namesOf(r api.Registry) [][]string {
	l := make([][]string, 4)
	for _, x := range r.Staff {
		l[0] = append(l[0], x.Code)
	}
	for _, x := range r.Classes {
		l[1] = append(l[1], x.Code)
	}
	for _, x := range r.Curricula {
		l[2] = append(l[2], x.Code)
	}
	for _, x := range r.Requests {
		l[3] = append(l[3], x.Student)
	}
	return l
}

// The consequence, R1: whatever is damaged, what is loaded has no error, and what is not loaded is reported.
func TestLoadDamaged(t *testing.T) {
	for i, text := range smallFiles() {
		records := strings.Count(text, "\n")
		for at := range text {
			for _, other := range []string{"", "x", "\"", ",", ";", "\n", "0", "#", "\x00", "\xff", text[at : at+1]} {
				files := smallFiles()
				files[i] = text[:at] + other + text[at+1:]
				r, p := Load(files, grid(), term())
				if Check(r) != api.OK || !slices.IsSortedFunc(p, byPlace) {
					t.Errorf("%q: %s, problems %v", files[i], shown(r), p)
				}
				read := []int{len(r.Rooms), len(r.Travel.Buildings) / 2, len(r.Staff), len(r.Classes), len(r.Curricula), len(r.Requests)}[i]
				if len(p) == 0 && other != "\n" && other != "#" && read != records && text[at] != '\n' {
					t.Errorf("%q: %d of %d records, but no problem", files[i], read, records)
				}
				if slices.ContainsFunc(p, func(x api.Problem) bool { return x.File <= i }) {
					t.Errorf("%q: problems %v", files[i], p)
				}
			}
		}
	}
}

func byPlace(a, b api.Problem) int {
	return cmp.Or(cmp.Compare(a.File, b.File), cmp.Compare(a.Line, b.Line), cmp.Compare(a.Column, b.Column))
}

// P13.2, R2: the arguments stay as they are, and the results share no memory with them or with each other.
func TestLoadMemory(t *testing.T) {
	files, x := smallFiles(), term()
	files[0] += "x\n"
	r, p := Load(files, grid(), x)
	if files[0] != smallFiles()[0]+"x\n" || !slices.Equal(files[1:], smallFiles()[1:]) || !slices.Equal(x.Holidays, term().Holidays) {
		t.Errorf("Load changed %q, %v", files, x)
	}
	other, _ := Load(files, grid(), x)
	clear(r.Term.Holidays)
	clear(r.Travel.Slots[0])
	r.Classes[0].Staff[0], r.Requests[1].Instead[0] = "", ""
	clear(p)
	if !slices.Equal(x.Holidays, term().Holidays) {
		t.Error("the term shares its holidays with the registry")
	}
	checkRegistry(t, other, small())
	clear(files)
	clear(x.Holidays)
	checkRegistry(t, other, small())
}
