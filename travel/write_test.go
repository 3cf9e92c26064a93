package travel

import (
	"slices"
	"strconv"
	"testing"

	"timetable/api"
	"timetable/records"
)

func checkWrite(t *testing.T, x api.Travel, want [][]string) {
	t.Helper()
	w, e := Write(x)
	if e != api.OK || !slices.EqualFunc(w, want, slices.Equal) {
		t.Errorf("Write(%v) = %v, %d; want %v", x, w, e, want)
	}
}

// P8.3: the known ways, each once, in ascending order of places.
func TestWrite(t *testing.T) {
	checkWrite(t, api.Travel{}, nil)
	checkWrite(t, tableOf(1), nil)
	checkWrite(t, tableOf(2, -1), nil)
	checkWrite(t, tableOf(2, 0), [][]string{{"B0", "B1", "0"}})
	checkWrite(t, tableOf(2, 24), [][]string{{"B0", "B1", "24"}})
	checkWrite(t, tableOf(4, 1, -1, 10, 9, -1, 2), [][]string{{"B0", "B1", "1"}, {"B0", "B3", "10"}, {"B1", "B2", "9"}, {"B2", "B3", "2"}})
	x := tableOf(3, 1, 2, 3)
	x.Buildings = []string{"Z", "b", "A"}
	checkWrite(t, x, [][]string{{"Z", "b", "1"}, {"Z", "A", "2"}, {"b", "A", "3"}})
	checkWrite(t, tableOf(8), nil)
}

// P8.3: all pairs of as many buildings as there can be.
func TestWriteAll(t *testing.T) {
	var entries []int
	for i := range 28 {
		entries = append(entries, i*24/27)
	}
	x := tableOf(8, entries...)
	var want [][]string
	for i := range 8 {
		for k := i + 1; k < 8; k++ {
			want = append(want, []string{x.Buildings[i], x.Buildings[k], strconv.Itoa(x.Slots[i][k])})
		}
	}
	checkWrite(t, x, want)
}

// P8.3, R2: the table stays as it is.
func TestWriteMemory(t *testing.T) {
	x := tableOf(3, 1, 2, 3)
	w, _ := Write(x)
	clear(w[0])
	if !equalTables(x, tableOf(3, 1, 2, 3)) || w[1][0] != "B0" {
		t.Errorf("after Write: %v, %v", x, w)
	}
}

// readAgain returns what is read from the file of a table.
func readAgain(t *testing.T, x api.Travel, d api.Dialect) api.Travel {
	t.Helper()
	w, e := Write(x)
	text, format := records.Format(w, d)
	file, damage := records.Parse(text, d)
	again, problems := Read(file)
	if e != api.OK || format != api.OK || len(damage) > 0 || len(problems) > 0 {
		t.Fatalf("file of %v: %d, %d, %v, %v", x, e, format, damage, problems)
	}
	return again
}

// What Write returns is read as the same ways; a building without any known way is missing then.
func TestWriteAndRead(t *testing.T) {
	eachTable(4, []int{-1, 0, 1, 24}, func(x api.Travel) {
		again := readAgain(t, x, api.Dialect{Delimiter: ',', Quote: '"'})
		for i, a := range x.Buildings {
			isolated := func(k int) bool { return k == i || x.Slots[i][k] < 0 }
			if slices.Contains(again.Buildings, a) == (isolated(0) && isolated(1) && isolated(2) && isolated(3)) {
				t.Fatalf("%v is read as %v", x, again)
			}
			for _, b := range x.Buildings {
				if Between(x, a, b) != Between(again, a, b) {
					t.Fatalf("%v is read as %v", x, again)
				}
			}
		}
	})
	x := tableOf(8, 1, 2, 3, 4, 5, 6, 7, 24, -1, 0, 10)
	for _, delimiter := range []byte(",;|\t") {
		for _, quote := range []byte("\"'") {
			if again := readAgain(t, x, api.Dialect{Delimiter: delimiter, Quote: quote}); !equalTables(again, x) {
				t.Errorf("%v is read as %v", x, again)
			}
		}
	}
}
