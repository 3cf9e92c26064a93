package curriculum

import (
	"slices"

	"timetable/api"
	"timetable/coursefile"
)

// Pairs returns the pairs of classes that a student of a curriculum must attend both.
func Pairs(c api.Curriculum, l []api.Class) [][2]int {
	attended := attendedBy(c, l)
	var pairs [][2]int
	for n, i := range attended {
		for _, k := range attended[n+1:] {
			pairs = append(pairs, [2]int{i, k})
		}
	}
	return pairs
}

// attendedBy returns the indices of the single classes whose courses belong to a curriculum.
func attendedBy(c api.Curriculum, l []api.Class) []int {
	var attended []int
	for i, class := range l {
		if slices.Contains(c.Courses, class.Course) && isSingle(l, i) {
			attended = append(attended, i)
		}
	}
	return attended
}

// isSingle reports whether no other class of a list is parallel to class i.
func isSingle(l []api.Class, i int) bool {
	isParallel := func(other api.Class) bool { return coursefile.Parallel(l[i], other) }
	return !slices.ContainsFunc(l[:i], isParallel) && !slices.ContainsFunc(l[i+1:], isParallel)
}
