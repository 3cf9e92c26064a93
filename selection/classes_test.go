package selection

import (
	"math/rand/v2"
	"slices"
	"testing"

	"timetable/api"
)

// words returns a registry in which x names something of each kind, and other classes each time.
func words() api.Registry {
	r := api.Registry{
		Grid: api.Grid{Days: 5, Slots: 10, Begin: 480, Minutes: 45},
		Term: api.Term{First: 2, Weeks: 10},
		Rooms: []api.Room{
			{Code: "R1", Building: "B", Seats: 30, Features: []string{"beamer", "lab"}},
			{Code: "R2", Building: "C", Seats: 20},
			{Code: "R3", Building: "C", Seats: 20, Features: []string{"organ", "x"}},
		},
		Travel: api.Travel{Buildings: []string{"B", "C"}, Slots: [][]int{{0, 2}, {2, 0}}},
		Staff:  []api.Lecturer{{Code: "ada"}, {Code: "x"}, {Code: "eve"}},
		Classes: []api.Class{
			{Code: "x", Course: "MA", Part: "lec"},
			{Code: "K1", Course: "x", Part: "lec", Features: []string{"beamer"}},
			{Code: "K2", Course: "PH", Part: "x", Staff: []string{"ada"}},
			{Code: "K3", Course: "CH", Part: "ex", Features: []string{"chairs"}},
			{Code: "K4", Course: "PH", Part: "lec", Staff: []string{"ada", "x"}},
			{Code: "K5", Course: "PH", Part: "ex", Features: []string{"beamer", "chairs", "x"}},
		},
		Curricula: []api.Curriculum{{Code: "x", Courses: []string{"CH", "MA"}}, {Code: "cs", Courses: []string{"x"}}},
		Requests:  []api.Request{{Student: "s1", Course: "x", Priority: 1}},
	}
	for i := range r.Classes {
		r.Classes[i].Length, r.Classes[i].Patterns = 1, []int{1}
	}
	return r
}

// named says for each kind of selection which classes each known name means.
var named = map[int]map[string][]int{
	api.SelectClass:      {"x": {0}, "K1": {1}, "K2": {2}, "K3": {3}, "K4": {4}, "K5": {5}},
	api.SelectCourse:     {"MA": {0}, "x": {1}, "PH": {2, 4, 5}, "CH": {3}},
	api.SelectPart:       {"lec": {0, 1, 4}, "x": {2}, "ex": {3, 5}},
	api.SelectCurriculum: {"x": {0, 3}, "cs": {1}},
	api.SelectStaff:      {"ada": {2, 4}, "x": {4}, "eve": nil},
	api.SelectFeature:    {"beamer": {1, 5}, "chairs": {3, 5}, "x": {5}, "lab": nil, "organ": nil},
}

func checkClasses(t *testing.T, r api.Registry, s api.Select, want []int, e api.Errno) {
	t.Helper()
	if l, err := Classes(r, s); !slices.Equal(l, want) || err != e {
		t.Errorf("Classes of %.300s = %v, %d; want %v, %d", shown(s), l, err, want, e)
	}
}

// P15.1: what each name means, and which names are known to which kind.
func TestClassesNames(t *testing.T) {
	r := words()
	texts := []string{"x", "X", "xx", "0", "R1", "R2", "R3", "B", "C", "s1", "K", "K6", "k1", "M", "MAT", "all", "lecture", "ad", "adam", "la", "labs"}
	for _, names := range named {
		for name := range names {
			texts = append(texts, name)
		}
	}
	for kind, names := range named {
		for _, name := range texts {
			want, known := names[name]
			if known {
				checkClasses(t, r, pick(kind, name), want, api.OK)
			} else {
				checkClasses(t, r, pick(kind, name), nil, api.ErrUnknown)
			}
		}
	}
	checkClasses(t, r, all(), []int{0, 1, 2, 3, 4, 5}, api.OK)
}

// P15.1: a feature is known if any class or any room has it.
func TestClassesFeatures(t *testing.T) {
	for i := range words().Rooms {
		r := words()
		r.Rooms[i].Features = []string{"a", "attic", "z"}
		checkClasses(t, r, pick(api.SelectFeature, "attic"), nil, api.OK)
		checkClasses(t, r, not(pick(api.SelectFeature, "z")), []int{0, 1, 2, 3, 4, 5}, api.OK)
		checkClasses(t, r, pick(api.SelectFeature, "at"), nil, api.ErrUnknown)
	}
	for i := range words().Classes {
		r := words()
		r.Rooms = nil
		r.Classes[i].Features = []string{"a", "attic", "z"}
		checkClasses(t, r, pick(api.SelectFeature, "attic"), []int{i}, api.OK)
		checkClasses(t, r, pick(api.SelectFeature, "z"), []int{i}, api.OK)
		checkClasses(t, r, pick(api.SelectFeature, "lab"), nil, api.ErrUnknown)
	}
}

// P15.1: a registry with hardly anything.
func TestClassesEmpty(t *testing.T) {
	r := api.Registry{Grid: words().Grid, Term: words().Term}
	for _, s := range []api.Select{all(), not(all()), both(all(), not(all())), either(all(), all())} {
		checkClasses(t, r, s, nil, api.OK)
	}
	for kind := api.SelectClass; kind <= api.SelectFeature; kind++ {
		checkClasses(t, r, pick(kind, "x"), nil, api.ErrUnknown)
		checkClasses(t, r, either(all(), pick(kind, "x")), nil, api.ErrUnknown)
	}
	r.Staff, r.Rooms = words().Staff, words().Rooms
	checkClasses(t, r, pick(api.SelectStaff, "ada"), nil, api.OK)
	checkClasses(t, r, either(pick(api.SelectStaff, "ada"), pick(api.SelectFeature, "lab")), nil, api.OK)
	checkClasses(t, r, pick(api.SelectFeature, "beamer"), nil, api.OK)
}

// leaves returns selections without kids of which the registry knows the names.
func leaves() []api.Select {
	l := []api.Select{all()}
	for kind := api.SelectClass; kind <= api.SelectFeature; kind++ {
		for _, name := range []string{"x", "K3", "PH", "lec", "cs", "ada", "eve", "beamer", "lab"} {
			if _, known := named[kind][name]; known {
				l = append(l, pick(kind, name))
			}
		}
	}
	return l
}

// meaning returns the classes of a selection as a set: the bit i is the class i.
func meaning(s api.Select) int {
	const every = 1<<6 - 1
	switch s.Kind {
	case api.SelectAll:
		return every
	case api.SelectNot:
		return every - meaning(s.Kids[0])
	}
	set := 0
	for _, i := range named[s.Kind][s.Name] {
		set |= 1 << i
	}
	if s.Kind == api.SelectAnd {
		set = every
	}
	for _, kid := range s.Kids {
		if s.Kind == api.SelectAnd {
			set &= meaning(kid)
		} else {
			set |= meaning(kid)
		}
	}
	return set
}

func checkMeaning(t *testing.T, r api.Registry, s api.Select) {
	t.Helper()
	var want []int
	for i := range r.Classes {
		if meaning(s)>>i&1 == 1 {
			want = append(want, i)
		}
	}
	checkClasses(t, r, s, want, api.OK)
}

// P15.1, another reading: selections as sets of classes.
func TestClassesSets(t *testing.T) {
	r := words()
	for _, s := range above(leaves(), 2) {
		checkMeaning(t, r, s)
	}
	for _, s := range above(above([]api.Select{class("x"), pick(api.SelectPart, "lec")}, 3), 2) {
		checkMeaning(t, r, s)
	}
	random := rand.New(rand.NewPCG(15, 1))
	for range 5000 {
		checkMeaning(t, r, grow(random, leaves(), 8, 64))
	}
}

// P15.1: a name that is not known may stand anywhere, also where it does not matter what it means.
func TestClassesUnknown(t *testing.T) {
	r := words()
	for kind := api.SelectClass; kind <= api.SelectFeature; kind++ {
		s := pick(kind, "zz")
		for _, whole := range []api.Select{
			not(s), notTimes(7, s),
			either(all(), s), either(s, all()), either(all(), all(), s),
			both(not(all()), s), both(s, not(all())), both(not(all()), s, all()),
			either(all(), both(not(all()), not(s))), both(not(all()), either(all(), not(s))),
		} {
			checkClasses(t, r, whole, nil, api.ErrUnknown)
		}
	}
}

// P15.1: selections that are not valid.
func TestClassesForm(t *testing.T) {
	r := words()
	for _, s := range invalids() {
		checkClasses(t, r, s, nil, api.ErrForm)
		checkClasses(t, api.Registry{Grid: r.Grid, Term: r.Term}, s, nil, api.ErrForm)
	}
	checkClasses(t, r, notTimes(7, class("K4")), []int{0, 1, 2, 3, 5}, api.OK)
	checkClasses(t, r, either(slices.Repeat([]api.Select{class("K4")}, 63)...), []int{4}, api.OK)
}

// P15.1: registries that are not valid, each in another way.
func TestClassesInvalid(t *testing.T) {
	for _, harm := range []func(r *api.Registry){
		func(r *api.Registry) { *r = api.Registry{} },
		func(r *api.Registry) { r.Grid.Days = 8 },
		func(r *api.Registry) { r.Term.First = 3 },
		func(r *api.Registry) { r.Rooms[0].Seats = 0 },
		func(r *api.Registry) { r.Travel.Slots = nil },
		func(r *api.Registry) { r.Staff[0].Code = "x" },
		func(r *api.Registry) { r.Staff = r.Staff[1:] },
		func(r *api.Registry) { r.Classes[5].Length = 0 },
		func(r *api.Registry) { r.Classes[0].Features = []string{"x", "beamer"} },
		func(r *api.Registry) { r.Curricula[0].Courses = nil },
		func(r *api.Registry) { r.Curricula[0].Courses = []string{"MA", "zz"} },
		func(r *api.Registry) { r.Requests[0].Course = "zz" },
	} {
		r := words()
		harm(&r)
		for _, s := range []api.Select{all(), class("x"), class("zz"), not(pick(api.SelectStaff, "zz")), {}, both(all()), endless()} {
			checkClasses(t, r, s, nil, api.ErrInvalid)
		}
	}
}

// P15.1: all sets of faults; the first one decides.
func TestClassesOrder(t *testing.T) {
	errors := []api.Errno{api.ErrInvalid, api.ErrForm, api.ErrUnknown}
	for set := range 1 << len(errors) {
		r, s, want := words(), either(class("x"), class("K1")), api.OK
		if set&1 != 0 {
			r.Requests[0].Priority = 0
		}
		if set&2 != 0 {
			s.Kids[1].Kids = []api.Select{all()}
		}
		if set&4 != 0 {
			s.Kids[0].Name = "zz"
		}
		for i := len(errors) - 1; i >= 0; i-- {
			if set>>i&1 == 1 {
				want = errors[i]
			}
		}
		var classes []int
		if want == api.OK {
			classes = []int{0, 1}
		}
		checkClasses(t, r, s, classes, want)
	}
}

// P15.1, R2: arguments stay as they are, and each result is new.
func TestClassesMemory(t *testing.T) {
	r, s := words(), either(all(), not(class("x")))
	before := shown(s)
	l, _ := Classes(r, s)
	l[0] = 9
	checkClasses(t, r, s, []int{0, 1, 2, 3, 4, 5}, api.OK)
	checkKept(t, s, before)
	if again := words(); !slices.EqualFunc(r.Classes, again.Classes, func(a, b api.Class) bool { return a.Code == b.Code && slices.Equal(a.Features, b.Features) }) {
		t.Errorf("the classes became %v", r.Classes)
	}
}
