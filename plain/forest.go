package plain

import (
	"cmp"
	"slices"

	"skein/api"
)

// sets are the vertices that are joined, by their places: each place has one that stands ahead of it in its set, the set's first has itself.
type sets []int

func newSets(size int) sets {
	s := make(sets, size)
	for i := range s {
		s[i] = i
	}
	return s
}

// first is the first place of the set.
func (s sets) first(i int) int {
	for s[i] != i {
		// Halves the way for those that ask later.
		s[i] = s[s[i]]
		i = s[i]
	}
	return i
}

// join makes one set of two; false if they are one already.
func (s sets) join(i, j int) bool {
	i, j = s.first(i), s.first(j)
	if i == j {
		return false
	}
	s[max(i, j)] = min(i, j)
	return true
}

// joined is the net's vertices that are joined.
func joined(n api.Net) sets {
	s := newSets(len(n.Verts))
	for _, e := range n.Edges {
		s.join(at(n, e.U), at(n, e.V))
	}
	return s
}

func byWeight(a, b api.Edge) int {
	return cmp.Or(cmp.Compare(a.W, b.W), cmp.Compare(a.Id, b.Id))
}

// forest is the forest's edges, by rising weight and id.
func forest(n api.Net) []api.Edge {
	edges := slices.Clone(n.Edges)
	slices.SortFunc(edges, byWeight)
	s := newSets(len(n.Verts))
	var taken []api.Edge
	for _, e := range edges {
		if s.join(at(n, e.U), at(n, e.V)) {
			taken = append(taken, e)
		}
	}
	return taken
}

// step is a way along an edge of the forest, to a place.
type step struct {
	to  int
	way api.Edge
}

// walk is how all places of a tree are come to from one of them.
type walk struct {
	order []int   // the places, as they were come to
	last  []step  // by place: the edge by which it was come to, and from where
	far   []int64 // by place: the distance
	known []bool  // by place: whether it was come to
}

func walkFrom(n api.Net, start int) *walk {
	size := len(n.Verts)
	w := &walk{
		order: []int{start},
		last:  make([]step, size),
		far:   make([]int64, size),
		known: make([]bool, size),
	}
	w.known[start] = true
	ways := waysOf(n)
	for i := 0; i < len(w.order); i++ {
		from := w.order[i]
		for _, s := range ways[from] {
			if w.known[s.to] {
				continue
			}
			w.known[s.to] = true
			w.last[s.to] = step{from, s.way}
			w.far[s.to] = w.far[from] + s.way.W
			w.order = append(w.order, s.to)
		}
	}
	return w
}

// waysOf is the forest's steps from each place.
func waysOf(n api.Net) [][]step {
	ways := make([][]step, len(n.Verts))
	for _, e := range forest(n) {
		u, v := at(n, e.U), at(n, e.V)
		ways[u] = append(ways[u], step{v, e})
		ways[v] = append(ways[v], step{u, e})
	}
	return ways
}

// back is the edges from a place back to the start; false if it wasn't come to.
func (w *walk) back(i int) ([]api.Edge, bool) {
	if !w.known[i] {
		return nil, false
	}
	var edges []api.Edge
	for i != w.order[0] {
		edges = append(edges, w.last[i].way)
		i = w.last[i].to
	}
	return edges, true
}

// farthest is a place that is as far from the start as any, and how far.
func (w *walk) farthest() (int, int64) {
	best := w.order[0]
	for _, i := range w.order {
		if w.far[i] > w.far[best] {
			best = i
		}
	}
	return best, w.far[best]
}
