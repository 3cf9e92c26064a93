package travel

import (
	"slices"

	"timetable/api"
)

// way is a way between two buildings, which takes the same slots in both directions.
type way struct {
	from, to string
	slots    int
}

// connectsSame reports whether another way is between the same buildings, in either direction.
func (w way) connectsSame(other way) bool {
	return w.from == other.from && w.to == other.to || w.from == other.to && w.to == other.from
}

// network is the ways that were read, and their buildings in the order in which these were named first.
type network struct {
	ways      []way
	buildings []string
}

// add takes a way in, or returns why it cannot.
func (n *network) add(w way) api.Errno {
	buildings := including(including(n.buildings, w.from), w.to)
	switch {
	case w.from == w.to:
		return api.ErrInvalid
	case slices.ContainsFunc(n.ways, w.connectsSame):
		return api.ErrDuplicate
	case len(buildings) > api.MaxBuildings:
		return api.ErrSize
	}
	n.ways, n.buildings = append(n.ways, w), buildings
	return api.OK
}

// table returns the travel table of a network.
func (n *network) table() api.Travel {
	t := api.Travel{Buildings: n.buildings, Slots: noWays(len(n.buildings))}
	for _, w := range n.ways {
		i, k := slices.Index(t.Buildings, w.from), slices.Index(t.Buildings, w.to)
		t.Slots[i][k], t.Slots[k][i] = w.slots, w.slots
	}
	return t
}

// noWays returns the rows of n buildings between which no way is known.
func noWays(n int) [][]int {
	var l [][]int
	for i := range n {
		row := slices.Repeat([]int{unknown}, n)
		row[i] = 0
		l = append(l, row)
	}
	return l
}

// including returns a list of buildings with one more, unless it is there already.
func including(l []string, building string) []string {
	if slices.Contains(l, building) {
		return l
	}
	return append(l, building)
}
