package hdt

import (
	"skein/euler"
	"skein/loose"
)

// top is the highest level. A tree of level i has no more than MaxVerts / 2^i vertices: on this level each is alone, and no edges come so high but those from a vertex to itself.
const top = 11

// edge is an edge. It is in the forests of its level and of those below, or it is loose, on its level alone.
type edge struct {
	u, v, level int
}

// level is a forest of edges of this level and of higher ones, and the loose edges of this level, whose ends the forest joins. Marked are the forest's edges whose level is this one, and the vertices that loose edges hang on.
type level struct {
	*euler.Forest
	loose loose.Edges
}

// hang hangs a loose edge on its ends.
func (l *level) hang(id, u, v int) {
	l.loose.Hang(id, u, v)
	l.mark(u, v)
}

// drop takes a loose edge off its ends.
func (l *level) drop(id, u, v int) {
	l.loose.Drop(id, u, v)
	l.mark(u, v)
}

// mark marks vertices, if loose edges hang on them.
func (l *level) mark(verts ...int) {
	for _, v := range verts {
		l.MarkV(v, len(l.loose[v]) > 0)
	}
}

// smaller is the one of two vertices whose tree is the smaller one.
func (l *level) smaller(u, v int) int {
	a, _ := l.Size(u)
	b, _ := l.Size(v)
	if a > b {
		return v
	}
	return u
}

// sift goes through the loose edges of a vertex until one leads out of its tree: those that lie within the tree, and that one (0: there is none). Which one it is that it meets is never told.
func (l *level) sift(v int) (within []int, out int) {
	for id, far := range l.loose[v] {
		if joined, _ := l.Joined(v, far); !joined {
			return within, id
		}
		within = append(within, id)
	}
	return within, 0
}

// hold lets a loose edge hold a tree together.
func (g *Graph) hold(id int) {
	x := g.edges[id]
	g.levels[x.level].drop(id, x.u, x.v)
	for i := range x.level + 1 {
		g.levels[i].Link(id, x.u, x.v)
	}
	g.levels[x.level].MarkE(id, true)
}

// mend joins the ends of an edge that is gone by a loose one, if there is such a one. None is above the level of the edge that is gone.
func (g *Graph) mend(gone edge) bool {
	for i := gone.level; i >= 0; i-- {
		if id := g.seek(i, gone); id != 0 {
			g.hold(id)
			return true
		}
	}
	return false
}

// seek is a loose edge of a level that joins the ends of an edge that is gone; 0: there is none. What it goes through in vain rises, so that all edges together are gone through only so often.
func (g *Graph) seek(i int, gone edge) int {
	l := &g.levels[i]
	part := l.smaller(gone.u, gone.v)
	for id, _ := l.SomeE(part); id != 0; id, _ = l.SomeE(part) {
		g.raise(id)
	}
	for v, _ := l.SomeV(part); v != 0; v, _ = l.SomeV(part) {
		within, out := l.sift(v)
		for _, id := range within {
			g.raise(id)
		}
		if out != 0 {
			return out
		}
	}
	return 0
}

// raise lets an edge rise by one level.
func (g *Graph) raise(id int) {
	x := g.edges[id]
	low, high := &g.levels[x.level], &g.levels[x.level+1]
	x.level++
	g.edges[id] = x
	for _, v := range [2]int{x.u, x.v} {
		high.AddV(v) // it may be there already
	}
	if !low.Has(id) {
		low.drop(id, x.u, x.v)
		high.hang(id, x.u, x.v)
		return
	}
	low.MarkE(id, false)
	high.Link(id, x.u, x.v)
	high.MarkE(id, true)
}
