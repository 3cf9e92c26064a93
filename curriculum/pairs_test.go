package curriculum

import (
	"slices"
	"testing"

	"timetable/api"
)

// classes returns classes of courses and parts that are each named by one letter: "Ap" is one of the course A and the part p.
func classes(names ...string) []api.Class {
	var l []api.Class
	for _, name := range names {
		l = append(l, api.Class{Course: name[:1], Part: name[1:]})
	}
	return l
}

func checkPairs(t *testing.T, courses []string, l []api.Class, want ...[2]int) {
	t.Helper()
	if pairs := Pairs(api.Curriculum{Courses: courses}, l); !slices.Equal(pairs, want) {
		t.Errorf("Pairs of %q in %v: %v, want %v", courses, l, pairs, want)
	}
}

// P11.3: classes of one course and of several ones, in any order of the courses.
func TestPairs(t *testing.T) {
	l := classes("Al", "Ae", "Ae", "Bl", "Bp", "Cl")
	checkPairs(t, []string{"A"}, l)
	checkPairs(t, []string{"B"}, l, [2]int{3, 4})
	checkPairs(t, []string{"C"}, l)
	checkPairs(t, []string{"B", "A"}, l, [2]int{0, 3}, [2]int{0, 4}, [2]int{3, 4})
	checkPairs(t, []string{"C", "A"}, l, [2]int{0, 5})
	checkPairs(t, []string{"A", "B", "C"}, l, [2]int{0, 3}, [2]int{0, 4}, [2]int{0, 5}, [2]int{3, 4}, [2]int{3, 5}, [2]int{4, 5})
	checkPairs(t, []string{"C", "C", "D", "A", "C"}, l, [2]int{0, 5})
	checkPairs(t, []string{"D", "a", "", "AB"}, l)
	checkPairs(t, nil, l)
	checkPairs(t, []string{}, l)
	checkPairs(t, []string{"A"}, nil)
	checkPairs(t, []string{"A"}, []api.Class{})
	checkPairs(t, nil, nil)
}

// P11.3: parallel classes may stand anywhere in the list, and be more than two.
func TestPairsParallel(t *testing.T) {
	both := []string{"A", "B"}
	checkPairs(t, both, classes("Al", "Bl"), [2]int{0, 1})
	checkPairs(t, both, classes("Al", "Bl", "Al"))
	checkPairs(t, both, classes("Bl", "Al", "Al"))
	checkPairs(t, both, classes("Al", "Al", "Bl"))
	checkPairs(t, both, classes("Al", "Al", "Al", "Bl", "Be"), [2]int{3, 4})
	checkPairs(t, both, classes("Bl", "Al", "Ae", "Al", "Be", "Al"), [2]int{0, 2}, [2]int{0, 4}, [2]int{2, 4})
	checkPairs(t, both, classes("Al", "Al"))
	checkPairs(t, both, classes("Al", "AL", "Al", "A", "A", "Al2"), [2]int{1, 5})
	// The part of another course, also of one that is not taken, is another part.
	checkPairs(t, both, classes("Al", "Cl", "Bl", "Cl"), [2]int{0, 2})
}

// P11.3: only Course, Part and Courses matter, and they are compared bytewise.
func TestPairsNames(t *testing.T) {
	l := classes("Al", "Ae")
	l[0].Code, l[1].Code = "x", "x"
	l[1].Staff, l[1].Length = []string{"ada"}, 2
	checkPairs(t, []string{"A"}, l, [2]int{0, 1})
	l[1].Part, l[1].Code = "l", "y"
	checkPairs(t, []string{"A"}, l)
	strange := []api.Class{{}, {Part: "\x00"}, {Course: "\xff"}, {Course: "\xff", Part: "\xff"}, {Course: "a b"}}
	checkPairs(t, []string{""}, strange, [2]int{0, 1})
	checkPairs(t, []string{"\xff", "a"}, strange, [2]int{2, 3})
	checkPairs(t, []string{"?", "a b", "\xff"}, strange, [2]int{2, 3}, [2]int{2, 4}, [2]int{3, 4})
	c := cs()
	c.Code = "?"
	if pairs := Pairs(c, []api.Class{{Course: "MA1"}, {Course: "PH"}}); !slices.Equal(pairs, [][2]int{{0, 1}}) {
		t.Errorf("pairs of a curriculum without a code: %v", pairs)
	}
}

// count returns how many classes of a list are of a course and a part.
func count(l []api.Class, course, part string) int {
	n := 0
	for _, c := range l {
		if c.Course == course && c.Part == part {
			n++
		}
	}
	return n
}

// pairsByCount reads P11.3 in another way: all pairs of indices are tried.
func pairsByCount(courses []string, l []api.Class) [][2]int {
	var pairs [][2]int
	for i, a := range l {
		for k, b := range l {
			taken := slices.Contains(courses, a.Course) && slices.Contains(courses, b.Course)
			if i < k && taken && count(l, a.Course, a.Part) == 1 && count(l, b.Course, b.Part) == 1 {
				pairs = append(pairs, [2]int{i, k})
			}
		}
	}
	return pairs
}

// allLists calls f with all lists of at most n of the names.
func allLists(names []string, n int, f func(l []string)) {
	var extend func(l []string)
	extend = func(l []string) {
		f(l)
		if len(l) < n {
			for _, name := range names {
				extend(append(slices.Clone(l), name))
			}
		}
	}
	extend(nil)
}

// P11.3 and the consequence: all short lists of classes, and all sets of courses.
func TestPairsAll(t *testing.T) {
	courses := []string{"C", "A", "B"}
	allLists([]string{"Ap", "Aq", "Bp", "Bq", "Cp"}, 5, func(names []string) {
		l := classes(names...)
		pairsOf := make(map[int][][2]int)
		for set := range 8 {
			var taken []string
			for i, course := range courses {
				if set>>i&1 == 1 {
					taken = append(taken, course)
				}
			}
			pairsOf[set] = pairsByCount(taken, l)
			checkPairs(t, taken, l, pairsOf[set]...)
		}
		for set := range 8 {
			for further := range 8 {
				for _, pair := range pairsOf[set] {
					if !slices.Contains(pairsOf[set|further], pair) {
						t.Fatalf("%v is no pair with further courses in %q", pair, names)
					}
				}
			}
		}
	})
}

// P11.3: a list of more classes than a registry has.
func TestPairsMany(t *testing.T) {
	var l []api.Class
	for _, part := range numbered("p", 200) {
		l = append(l, api.Class{Course: "A", Part: part})
	}
	checkPairs(t, []string{"A"}, l, pairsByCount([]string{"A"}, l)...)
	checkPairs(t, []string{"A"}, append(slices.Clone(l), l...))
	if n := len(Pairs(api.Curriculum{Courses: []string{"A"}}, l)); n != 200*199/2 {
		t.Errorf("%d pairs of 200 classes", n)
	}
}

// P11.3, R2: the arguments stay as they are, and results share no memory.
func TestPairsMemory(t *testing.T) {
	c, l := api.Curriculum{Courses: []string{"B", "A"}}, classes("Bl", "Al", "Al", "Ae")
	first := Pairs(c, l)
	if !slices.Equal(c.Courses, []string{"B", "A"}) || l[0].Course != "B" || l[3].Part != "e" || len(first) != 1 {
		t.Fatalf("after Pairs: %v, %v, %v", c, l, first)
	}
	first[0] = [2]int{}
	checkPairs(t, c.Courses, l, [2]int{0, 3})
}

// The examples of the chapter.
func TestExamples(t *testing.T) {
	checkPairs(t, []string{"A"}, classes("Al", "Ae", "Ae"))
	checkPairs(t, []string{"A", "B"}, classes("Al", "Ae", "Ae", "Bl"), [2]int{0, 3})
	checkPairs(t, []string{"A"}, classes("Al", "Am"), [2]int{0, 1})
}
