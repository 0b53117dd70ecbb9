package index

import (
	"cmp"

	"skein/api"
	"skein/msf"
)

func byWeight(a, b api.Edge) int {
	return cmp.Or(cmp.Compare(a.W, b.W), cmp.Compare(a.Id, b.Id))
}

func (x *Index) addV(id int) api.Errno {
	e := x.joined.AddV(id)
	if e == api.OK {
		x.least.AddV(id)
		x.trees.AddV(id)
		x.verts[id] = struct{}{}
	}
	return e
}

func (x *Index) delV(id int) api.Errno {
	e := x.joined.DelV(id)
	if e == api.OK {
		x.least.DelV(id)
		x.trees.DelV(id)
		delete(x.verts, id)
	}
	return e
}

func (x *Index) addE(e api.Edge) api.Errno {
	swap, err := x.least.AddE(e)
	if err == api.OK {
		x.joined.AddE(e.Id, e.U, e.V)
		x.follow(swap)
		x.edges[e.Id] = struct{}{}
	}
	return err
}

func (x *Index) delE(id int) api.Errno {
	swap, err := x.least.DelE(id)
	switch err {
	case api.OK:
		x.joined.DelE(id)
		x.follow(swap)
		delete(x.edges, id)
	case api.ErrUnder:
		return api.ErrNotFound // as layer 5 says it
	}
	return err
}

// follow does to the trees what a change has done to the forest.
func (x *Index) follow(s msf.Swap) {
	if s.Out != 0 {
		x.trees.Cut(s.Out)
	}
	if in, ok := x.least.Edge(s.In); ok {
		x.trees.Link(in)
	}
}
