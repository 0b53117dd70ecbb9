// Package walk keeps trees as closed walks, in rows of layer 15.
package walk

import "skein/treap"

// Walks are closed walks, each around a tree, in a row of places: each vertex has one, where the walk goes by it some time, and each edge two, where the walk goes along it and where it comes back. A row may begin anywhere on its walk.
type Walks[T treap.Summer[T]] struct {
	*treap.Rope[T]
	free []int // places that are nobody's any more: a rope doesn't take nodes back
}

// New makes no walks.
func New[T treap.Summer[T]](seeds ...int) *Walks[T] {
	return &Walks[T]{Rope: treap.New[T](seeds...)}
}

// Take is a place that is somebody's from now on, in a row of its own. There is always one, while no more than MaxNodes are taken at once.
func (w *Walks[T]) Take(v T) int {
	if len(w.free) == 0 {
		a, _ := w.Make(v)
		return a
	}
	last := len(w.free) - 1
	a := w.free[last]
	w.free = w.free[:last]
	w.Set(a, v)
	return a
}

// Give makes a place that is in a row of its own nobody's.
func (w *Walks[T]) Give(a int) { w.free = append(w.free, a) }

// beside is the place that stands so far behind another one in its row; if none does it is 0, which a rope neither cuts nor joins.
func (w *Walks[T]) beside(a, by int) int {
	i, _ := w.Index(a)
	b, _ := w.At(a, i+by)
	return b
}

// inOrder are two places as they stand in their row.
func (w *Walks[T]) inOrder(places [2]int) (first, last int) {
	i, _ := w.Index(places[0])
	j, _ := w.Index(places[1])
	if i > j {
		return places[1], places[0]
	}
	return places[0], places[1]
}

// Turn lets a walk begin at a place.
func (w *Walks[T]) Turn(a int) {
	first, _ := w.At(a, 0)
	if first == a {
		return
	}
	w.Cut(a)
	w.Join(a, first)
}

// Link makes one walk of those of two vertices: the second one's, which is turned to begin at it, stands between an edge's places right behind the first one.
func (w *Walks[T]) Link(u, v int, places [2]int) {
	w.Turn(v)
	rest := w.beside(u, 1)
	w.Cut(rest)
	w.Join(u, places[0])
	w.Join(places[0], v)
	w.Join(v, places[1])
	w.Join(places[1], rest)
}

// Part makes two walks of one: what stands between an edge's places, and what stands ahead of them and behind them. Neither is empty, for there is a vertex on either side; both places are in rows of their own then.
func (w *Walks[T]) Part(places [2]int) {
	first, last := w.inOrder(places)
	ahead, rest := w.beside(first, -1), w.beside(last, 1)
	for _, a := range [4]int{first, w.beside(first, 1), last, rest} {
		w.Cut(a)
	}
	w.Join(ahead, rest)
}
