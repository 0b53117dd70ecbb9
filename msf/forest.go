package msf

import "skein/api"

// above tells whether an edge is greater than another one. The zero one, the greatest of a path without edges, is above none.
func above(a, b api.Edge) bool { return a.W > b.W || a.W == b.W && a.Id > b.Id }

// refuses is why an edge can't come.
func (g *Graph) refuses(e api.Edge) api.Errno {
	if !isId(e.Id) || !isId(e.U) || !isId(e.V) {
		return api.ErrArg
	}
	if e.W < 0 || e.W > api.MaxWeight {
		return api.ErrWeight
	}
	if _, ok := g.edges[e.Id]; ok {
		return api.ErrExists
	}
	if _, err := g.Joined(e.U, e.V); err != api.OK {
		return err
	}
	if len(g.edges) >= api.MaxEdges {
		return api.ErrMany
	}
	return api.OK
}

// hold takes a loose edge into the forest.
func (g *Graph) hold(e api.Edge) {
	g.loose.Drop(e.Id, e.U, e.V)
	g.trees.Link(e.Id, e.U, e.V)
	g.paths.Link(e)
	g.weight += e.W
}

// release makes one of the forest's edges a loose one.
func (g *Graph) release(e api.Edge) {
	g.weight -= e.W
	g.paths.Cut(e.Id)
	g.trees.Cut(e.Id)
	g.loose.Hang(e.Id, e.U, e.V)
}

// least is the least loose edge that joins the trees of two vertices, which were one tree; the zero one, if none does. Each that does hangs on the smaller tree, too.
func (g *Graph) least(u, v int) api.Edge {
	a, _ := g.trees.Size(u)
	b, _ := g.trees.Size(v)
	if a > b {
		u = v
	}
	verts, _ := g.trees.Verts(u)
	var least api.Edge
	for _, at := range verts {
		for id, far := range g.loose[at] {
			e := g.edges[id]
			if least.Id != 0 && above(e, least) {
				continue
			}
			if joined, _ := g.trees.Joined(u, far); !joined {
				least = e
			}
		}
	}
	return least
}
