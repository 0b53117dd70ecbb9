package euler

import (
	"slices"

	"skein/api"
)

// load is what a place of a walk bears, or some of them together: so many vertices, marked vertices and marked edges.
type load struct {
	verts, markedV, markedE int
}

// Plus is what two bear together.
func (x load) Plus(y load) load {
	return load{x.verts + y.verts, x.markedV + y.markedV, x.markedE + y.markedE}
}

func count(on bool) int {
	if on {
		return 1
	}
	return 0
}

// take is a place that is somebody's from now on, in a walk of its own. There is always one: a forest has no more than three for each vertex that it may have.
func (f *Forest) take(of api.Ref, x load) int {
	a := f.walks.Take(x)
	if a == len(f.whose) {
		f.whose = append(f.whose, of)
	}
	f.whose[a] = of
	return a
}

// give makes a place that is in a walk of its own nobody's.
func (f *Forest) give(a int) {
	f.whose[a] = api.Ref{}
	f.walks.Give(a)
}

// ids are those of the vertices, or of the edges, of a vertex's tree.
func (f *Forest) ids(u int, edges bool) ([]int, api.Errno) {
	a, ok := f.verts[u]
	if !ok {
		return nil, api.ErrNotFound
	}
	places, e := f.walks.List(a)
	var ids []int
	for _, a := range places {
		if of := f.whose[a]; of.Edge == edges {
			ids = append(ids, of.Id)
		}
	}
	slices.Sort(ids)
	return slices.Compact(ids), e // an edge has two places
}

// some is whose the first place is, of the walk of a vertex's tree, that has something; 0 if there is none.
func (f *Forest) some(u int, has func(load) bool) (int, api.Errno) {
	a, ok := f.verts[u]
	if !ok {
		return 0, api.ErrNotFound
	}
	at, e := f.walks.Seek(a, has)
	return f.whose[at].Id, e
}
