package span

import "skein/api"

// longest is the longest way in a vertex's tree.
func (f *Forest) longest(u int) (way, api.Errno) {
	a, ok := f.verts[u]
	if !ok {
		return way{}, api.ErrNotFound
	}
	all, e := f.walks.All(a)
	return all.span, e
}

// over is the other end of an edge.
func over(e api.Edge, v int) int {
	if v == e.U {
		return e.V
	}
	return e.U
}

// byDepth are two vertices, the one ahead that has fewer edges between itself and its root.
func (f *Forest) byDepth(u, v int) (int, int) {
	for a, b := u, v; ; {
		up, _ := f.paths.Edge(f.hangs[a])
		if up.Id == 0 {
			return u, v
		}
		other, _ := f.paths.Edge(f.hangs[b])
		if other.Id == 0 {
			return v, u
		}
		a, b = over(up, a), over(other, b)
	}
}

// hang lets a vertex hang by an edge. What it hung by up to now hangs on it instead, and so on up to the root that was.
func (f *Forest) hang(v, id int) {
	for {
		edge, _ := f.paths.Edge(f.hangs[v])
		f.hangs[v] = id
		if edge.Id == 0 {
			return
		}
		f.flip(edge)
		v, id = over(edge, v), edge.Id
	}
}

// flip lets the walk go down along an edge where it came back up.
func (f *Forest) flip(e api.Edge) {
	places := f.edges[e.Id]
	places[0], places[1] = places[1], places[0]
	f.edges[e.Id] = places
	f.walks.Set(places[0], down(e.W))
	f.walks.Set(places[1], down(-e.W))
}
