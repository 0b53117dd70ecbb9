package euler

import (
	"slices"

	"skein/api"
)

// load is what a place of a walk bears, or some of them together: so many vertices, marked vertices and marked edges.
type load struct {
	verts, markedV, markedE int
}

// Plus is what two bear together.
func (x load) Plus(y load) load {
	return load{x.verts + y.verts, x.markedV + y.markedV, x.markedE + y.markedE}
}

func count(on bool) int {
	if on {
		return 1
	}
	return 0
}

// take is a place that is somebody's from now on, in a walk of its own. There is always one: a forest has no more than three for each vertex that it may have.
func (f *Forest) take(of api.Ref, x load) int {
	if len(f.free) == 0 {
		a, _ := f.walks.Make(x)
		f.whose = append(f.whose, of)
		return a
	}
	last := len(f.free) - 1
	a := f.free[last]
	f.free = f.free[:last]
	f.walks.Set(a, x)
	f.whose[a] = of
	return a
}

// give makes a place that is in a walk of its own nobody's.
func (f *Forest) give(a int) {
	f.whose[a] = api.Ref{}
	f.free = append(f.free, a)
}

// turn lets a closed walk begin at a place.
func (f *Forest) turn(a int) {
	first, _ := f.walks.At(a, 0)
	if first == a {
		return
	}
	f.walks.Cut(a)
	f.walks.Join(a, first)
}

// link makes one walk of those of two vertices: from the one around its tree, over to the other one, around that one's tree, and back.
func (f *Forest) link(u, v int, places [2]int) {
	f.turn(u)
	f.turn(v)
	f.walks.Join(u, places[0])
	f.walks.Join(places[0], v)
	f.walks.Join(v, places[1])
}

// cut makes two walks of one: what stands between an edge's places, and the rest. Both are closed, and neither is empty.
func (f *Forest) cut(places [2]int) {
	f.turn(places[0])
	f.walks.Cut(places[1])
	for _, a := range places {
		next, _ := f.walks.At(a, 1)
		f.walks.Cut(next)
	}
}

// ids are those of the vertices, or of the edges, of a vertex's tree.
func (f *Forest) ids(u int, edges bool) ([]int, api.Errno) {
	a, ok := f.verts[u]
	if !ok {
		return nil, api.ErrNotFound
	}
	places, e := f.walks.List(a)
	var ids []int
	for _, a := range places {
		if of := f.whose[a]; of.Edge == edges {
			ids = append(ids, of.Id)
		}
	}
	slices.Sort(ids)
	return slices.Compact(ids), e // an edge has two places
}

// some is whose the first place is, of the walk of a vertex's tree, that has something; 0 if there is none.
func (f *Forest) some(u int, has func(load) bool) (int, api.Errno) {
	a, ok := f.verts[u]
	if !ok {
		return 0, api.ErrNotFound
	}
	at, e := f.walks.Seek(a, has)
	return f.whose[at].Id, e
}
