package walk_test

import (
	"math/rand/v2"
	"slices"
	"testing"

	"skein/api"
	"skein/treap"
	"skein/walk"
)

// row wants a row, whichever of its places is asked, and what it bears.
func row(t *testing.T, w *walk.Walks[treap.Sum], wanted ...int) {
	t.Helper()
	n := int64(0)
	for _, a := range wanted {
		if list, e := w.List(a); e != api.OK || !slices.Equal(list, wanted) {
			t.Fatalf("the row of %d is %v, want %v", a, list, wanted)
		}
		v, _ := w.Value(a)
		n += v.N
	}
	if all, e := w.All(wanted[0]); e != api.OK || all.N != n {
		t.Fatalf("the row %v bears %d, want %d", wanted, all.N, n)
	}
}

// taken are so many places, each in a row of its own.
func taken(t *testing.T, count int) *walk.Walks[treap.Sum] {
	t.Helper()
	w := walk.New[treap.Sum](4, 2)
	for i := 1; i <= count; i++ {
		if a := w.Take(treap.Sum{N: int64(i)}); a != i {
			t.Fatalf("Take = %d, want %d", a, i)
		}
	}
	return w
}

func TestTakeAndGive(t *testing.T) {
	w := taken(t, 3)
	w.Give(2)
	w.Give(3)
	again := []int{w.Take(treap.Sum{N: 7}), w.Take(treap.Sum{N: 7})}
	slices.Sort(again)
	if !slices.Equal(again, []int{2, 3}) {
		t.Fatalf("Take = %v, want what was given", again)
	}
	for _, a := range again {
		if v, _ := w.Value(a); v.N != 7 {
			t.Fatalf("%d bears %v", a, v)
		}
		row(t, w, a)
	}
	if a := w.Take(treap.Sum{}); a != 4 {
		t.Fatalf("Take = %d, want another one", a)
	}
}

func TestTurn(t *testing.T) {
	w := taken(t, 3)
	w.Turn(1)
	row(t, w, 1)
	w.Join(1, 2)
	w.Join(2, 3)
	w.Turn(1)
	row(t, w, 1, 2, 3)
	w.Turn(3)
	row(t, w, 3, 1, 2)
	w.Turn(1)
	row(t, w, 1, 2, 3)
}

func TestLinkAndPart(t *testing.T) {
	w := taken(t, 10) // 1 to 4 are vertices' places, the edges have 5 and 6, 7 and 8, 9 and 10
	w.Link(1, 2, [2]int{5, 6})
	row(t, w, 1, 5, 2, 6)
	w.Link(1, 3, [2]int{7, 8})
	row(t, w, 1, 7, 3, 8, 5, 2, 6)
	w.Link(4, 2, [2]int{9, 10})
	row(t, w, 4, 9, 2, 6, 1, 7, 3, 8, 5, 10)
	w.Part([2]int{5, 6}) // they stand the other way round
	row(t, w, 4, 9, 2, 10)
	row(t, w, 1, 7, 3, 8)
	row(t, w, 5)
	row(t, w, 6)
	w.Turn(7)
	row(t, w, 7, 3, 8, 1) // nothing stands ahead of it
	w.Part([2]int{7, 8})
	row(t, w, 3)
	row(t, w, 1)
	w.Part([2]int{9, 10}) // nothing stands behind it
	row(t, w, 4)
	row(t, w, 2)
	for a := 5; a <= 10; a++ {
		row(t, w, a)
	}
}

// edge is an edge's ends and its places.
type edge struct {
	ends, places [2]int
}

// Any links and parts: a walk stays closed, and has each vertex once.
func TestAnyWalks(t *testing.T) {
	const verts = 12
	for seed := range uint64(20) {
		r := rand.New(rand.NewPCG(seed, 0))
		w := walk.New[treap.Sum](int(seed))
		for range verts {
			w.Take(treap.Sum{N: 1})
		}
		var edges []edge
		for range 300 {
			u, v := 1+r.IntN(verts), 1+r.IntN(verts)
			if same, _ := w.Same(u, v); !same {
				places := [2]int{w.Take(treap.Sum{}), w.Take(treap.Sum{})}
				w.Link(u, v, places)
				edges = append(edges, edge{[2]int{u, v}, places})
			} else if u == v {
				w.Turn(u)
			} else {
				i := r.IntN(len(edges))
				w.Part(edges[i].places)
				w.Give(edges[i].places[0])
				w.Give(edges[i].places[1])
				edges = slices.Delete(edges, i, i+1)
			}
			for v := 1; v <= verts; v++ {
				closed(t, w, v, verts, edges)
			}
		}
	}
}

// closed wants that the walk of a vertex goes from one to the next by edges that are there, along each twice, and to where it began.
func closed(t *testing.T, w *walk.Walks[treap.Sum], v, verts int, edges []edge) {
	t.Helper()
	w.Turn(v)
	list, _ := w.List(v)
	at, count := v, 0
	for _, a := range list {
		if a <= verts {
			count++
			if a != at {
				t.Fatalf("%v: at %d the walk is at %d", list, a, at)
			}
			continue
		}
		i := slices.IndexFunc(edges, func(e edge) bool { return slices.Contains(e.places[:], a) })
		if i < 0 || !slices.Contains(edges[i].ends[:], at) {
			t.Fatalf("%v: from %d it can't go along %d", list, at, a)
		}
		at = edges[i].ends[0] + edges[i].ends[1] - at
	}
	all, _ := w.All(v)
	if at != v || int64(count) != all.N || len(list) != 3*count-2 {
		t.Fatalf("%v: from %d to %d, by %d vertices", list, v, at, count)
	}
}
