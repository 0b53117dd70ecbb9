package hdt

import (
	"maps"
	"math/rand/v2"
	"testing"

	"skein/api"
)

// holdTo holds a graph to what its levels are to be, so that all edges together are gone through only so often.
func (g *Graph) holdTo(t *testing.T) {
	t.Helper()
	for id, x := range g.edges {
		g.edge(t, id, x)
	}
	for i := range g.levels {
		g.level(t, i)
	}
}

// edge holds an edge to its levels: it is in all forests up to its level, or it is loose on its level, and joined there.
func (g *Graph) edge(t *testing.T, id int, x edge) {
	t.Helper()
	held := g.levels[0].Has(id)
	for i := range g.levels {
		l := &g.levels[i]
		if l.Has(id) != (held && i <= x.level) {
			t.Fatalf("edge %d of level %d: Has is %v on level %d", id, x.level, l.Has(id), i)
		}
		_, one := l.loose[x.u][id]
		_, other := l.loose[x.v][id]
		if is := !held && i == x.level; one != is || other != is {
			t.Fatalf("edge %d of level %d: loose on level %d: %v, %v", id, x.level, i, one, other)
		}
	}
	if joined, e := g.levels[x.level].Joined(x.u, x.v); !joined || e != api.OK {
		t.Fatalf("edge %d: its ends aren't joined on level %d", id, x.level)
	}
}

// level holds a level to what it is to be: its trees are small, and those are marked that are to be.
func (g *Graph) level(t *testing.T, i int) {
	t.Helper()
	l := &g.levels[i]
	for v, ids := range l.loose {
		if len(ids) == 0 {
			t.Fatalf("level %d: vertex %d has an empty map", i, v)
		}
		for id := range ids {
			if x := g.edges[id]; x.level != i || x.u != v && x.v != v {
				t.Fatalf("level %d: edge %d hangs loose on %d", i, id, v)
			}
		}
	}
	held := map[int]bool{}
	for _, x := range g.edges {
		for _, v := range [2]int{x.u, x.v} {
			if held[v] {
				continue
			}
			tree, _ := l.Verts(v)
			for _, u := range tree {
				held[u] = true
			}
			if len(tree) > api.MaxVerts>>i {
				t.Fatalf("level %d: a tree of %d vertices", i, len(tree))
			}
			if len(tree) > 0 {
				g.marks(t, i, v, tree)
			}
		}
	}
}

// marks holds what is told of the marks in a vertex's tree to what is to be marked there.
func (g *Graph) marks(t *testing.T, i, v int, tree []int) {
	t.Helper()
	l := &g.levels[i]
	hang := false
	for _, u := range tree {
		hang = hang || len(l.loose[u]) > 0
	}
	edges, _ := l.Edges(v)
	here := false
	for _, id := range edges {
		here = here || g.edges[id].level == i
	}
	if u, _ := l.SomeV(v); (u != 0) != hang || u != 0 && len(l.loose[u]) == 0 {
		t.Fatalf("level %d: SomeV(%d) = %d", i, v, u)
	}
	if id, _ := l.SomeE(v); (id != 0) != here || id != 0 && g.edges[id].level != i {
		t.Fatalf("level %d: SomeE(%d) = %d", i, v, id)
	}
}

// noneSinks wants that no edge's level is below the one it is known to have had.
func (g *Graph) noneSinks(t *testing.T, known map[int]edge) {
	t.Helper()
	for id, x := range g.edges {
		if was, ok := known[id]; ok && x.level < was.level {
			t.Fatalf("edge %d sinks from level %d to %d", id, was.level, x.level)
		}
	}
}

// An edge's level only rises, and no forest is greater than its level lets it be, whatever comes and goes.
func TestLevels(t *testing.T) {
	for seed := range uint64(6) {
		r := rand.New(rand.NewPCG(18, seed))
		verts := []int{2, 5, 20, 60, 60, 200}[seed]
		g := New(int(seed), 3)
		for v := range verts {
			g.AddV(v + 1)
		}
		near := func() (int, int) {
			u := r.IntN(verts)
			return u + 1, (u+r.IntN(4))%verts + 1
		}
		for range 40 * verts {
			known := maps.Clone(g.edges)
			id := 1 + r.IntN(3*verts)
			if _, ok := g.edges[id]; ok {
				delete(known, id)
				g.DelE(id)
			} else {
				u, v := near()
				g.AddE(id, u, v)
			}
			g.noneSinks(t, known)
			if verts <= 60 {
				g.holdTo(t)
			}
		}
		g.holdTo(t)
	}
}

// As many vertices and edges as may be: the halves of a ring are halved, and halved again, as far as the levels go.
func TestHalves(t *testing.T) {
	const most = api.MaxVerts
	g := New()
	for v := range most {
		g.AddV(v + 1)
	}
	for id := range most {
		g.AddE(id+1, id+1, (id+1)%most+1)
	}
	high := 0
	for step := most; step >= 1; step /= 2 {
		for id := step; id <= most; id += step {
			known := maps.Clone(g.edges)
			if g.DelE(id) == api.OK {
				delete(known, id)
				g.noneSinks(t, known)
			}
		}
		for _, x := range g.edges {
			high = max(high, x.level)
		}
		if step%16 == 0 {
			g.holdTo(t)
		}
	}
	g.holdTo(t)
	if high < top-2 || g.Trees() != most {
		t.Errorf("no edge is above level %d; %d trees", high, g.Trees())
	}
}

// Vertices whose edges have risen go whole: however many others come, each level has room for them.
func TestNewVertices(t *testing.T) {
	g := New(4)
	for first := 1; first < 3*api.MaxVerts; first += 4 {
		for v := first; v < first+4; v++ {
			g.AddV(v)
		}
		g.AddE(1, first, first+1)
		g.AddE(2, first+1, first)
		g.AddE(3, first+2, first+3)
		g.AddE(4, first+3, first+2)
		g.AddE(5, first+1, first+2)
		g.DelE(5) // the edges of one of the halves rise
		g.holdTo(t)
		for id := 1; id <= 3; id += 2 {
			if g.DelE(id); g.Trees() != 2 {
				t.Fatalf("vertex %d: %d trees", first, g.Trees())
			}
		}
		for id := 2; id <= 4; id += 2 {
			g.DelE(id)
		}
		for v := first; v < first+4; v++ {
			g.DelV(v)
		}
		for i, l := range g.levels {
			if l.Len() > 0 || len(l.loose) > 0 {
				t.Fatalf("level %d: %d vertices are left", i, l.Len())
			}
		}
	}
}

// A vertex's loop rises whenever what it lies in is the smaller part: up to the highest level, where the vertex is alone.
func TestLoopsRise(t *testing.T) {
	const loop = api.MaxVerts
	g := New()
	for v := range api.MaxVerts {
		g.AddV(v + 1)
	}
	for id := 1; id < loop; id++ {
		g.AddE(id, id, id+1)
	}
	g.AddE(loop, 1, 1)
	level := 0
	for half := api.MaxVerts / 2; half >= 1; half /= 2 {
		g.DelE(half)
		g.holdTo(t)
		level++
		if g.edges[loop].level != level {
			t.Errorf("the loop is on level %d, want %d", g.edges[loop].level, level)
		}
	}
	if level != top {
		t.Errorf("the loop is on level %d, want %d", level, top)
	}
	if g.DelV(1) != api.ErrInUse || g.DelE(loop) != api.OK || g.DelV(1) != api.OK || g.Trees() != level {
		t.Errorf("the vertex doesn't go: %d trees", g.Trees())
	}
	g.AddV(1)
	g.AddE(1, 1, 2)
	g.holdTo(t)
}
