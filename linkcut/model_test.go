package linkcut_test

import (
	"maps"
	"math/rand/v2"
	"slices"
	"testing"

	"skein/api"
	"skein/linkcut"
)

// model is what a forest has to tell: which vertices there are, and which edges.
type model struct {
	f     *linkcut.Forest
	verts map[int]bool
	edges map[int]api.Edge
	fails map[api.Errno]int
}

func newModel() *model {
	return &model{f: linkcut.New(), verts: map[int]bool{}, edges: map[int]api.Edge{}, fails: map[api.Errno]int{}}
}

// paths are what is told of the paths from a vertex, by the vertices at which they end, found by going from one to the next.
func (m *model) paths(u int) map[int]api.Agg {
	at := map[int][]api.Edge{}
	for _, e := range m.edges {
		at[e.U] = append(at[e.U], e)
		at[e.V] = append(at[e.V], e)
	}
	out := map[int]api.Agg{u: {}}
	for next := []int{u}; len(next) > 0; next = next[1:] {
		from := out[next[0]]
		for _, e := range at[next[0]] {
			v := e.U + e.V - next[0]
			if _, known := out[v]; !known {
				out[v] = api.Agg{Max: greater(from.Max, e), Sum: from.Sum + complex(float64(e.W), 1)}
				next = append(next, v)
			}
		}
	}
	return out
}

func greater(a, b api.Edge) api.Edge {
	if a.W > b.W || a.W == b.W && a.Id > b.Id {
		return a
	}
	return b
}

type fault struct {
	applies bool
	e       api.Errno
}

// end is how a call has to end: with the first of the errors that applies.
func (m *model) end(t *testing.T, what string, e api.Errno, applies ...fault) bool {
	t.Helper()
	wanted := api.OK
	for _, x := range applies {
		if x.applies {
			wanted = x.e
			break
		}
	}
	m.fails[wanted]++
	want(t, what, e, wanted)
	return wanted == api.OK
}

func isId(id int) bool { return id >= 1 && id <= api.MaxId }

func (m *model) addV(t *testing.T, v int) {
	t.Helper()
	if m.end(t, "AddV", m.f.AddV(v), fault{!isId(v), api.ErrArg}, fault{m.verts[v], api.ErrExists}) {
		m.verts[v] = true
	}
}

func (m *model) delV(t *testing.T, v int) {
	t.Helper()
	hangs := len(m.paths(v)) > 1
	if m.end(t, "DelV", m.f.DelV(v), fault{!isId(v), api.ErrArg}, fault{!m.verts[v], api.ErrNotFound}, fault{hangs, api.ErrInUse}) {
		delete(m.verts, v)
	}
}

func (m *model) link(t *testing.T, e api.Edge) {
	t.Helper()
	_, there := m.edges[e.Id]
	_, joined := m.paths(e.U)[e.V]
	if m.end(t, "Link", m.f.Link(e),
		fault{!isId(e.Id) || !isId(e.U) || !isId(e.V), api.ErrArg},
		fault{e.W < 0 || e.W > api.MaxWeight, api.ErrWeight},
		fault{there, api.ErrExists},
		fault{!m.verts[e.U] || !m.verts[e.V], api.ErrNotFound},
		fault{joined, api.ErrLink}) {
		m.edges[e.Id] = e
	}
}

func (m *model) cut(t *testing.T, id int) {
	t.Helper()
	_, there := m.edges[id]
	if m.end(t, "Cut", m.f.Cut(id), fault{!isId(id), api.ErrArg}, fault{!there, api.ErrUnder}) {
		delete(m.edges, id)
	}
}

// path holds what is told of a path against the model.
func (m *model) path(t *testing.T, u, v int, paths map[int]api.Agg) {
	t.Helper()
	path, ok := paths[v]
	joined, e := m.f.Joined(u, v)
	told, err := m.f.Along(u, v)
	switch {
	case !m.verts[u] || !m.verts[v]:
		got(t, "Joined", joined, e, false, api.ErrNotFound)
		got(t, "Along", told, err, api.Agg{}, api.ErrNotFound)
	case !ok:
		got(t, "Joined", joined, e, false, api.OK)
		got(t, "Along", told, err, api.Agg{}, api.ErrNoPath)
	default:
		got(t, "Joined", joined, e, true, api.OK)
		got(t, "Along", told, err, path, api.OK)
	}
}

// all holds everything that is told against the model, of ids up to one.
func (m *model) all(t *testing.T, up int) {
	t.Helper()
	for u := range up + 2 {
		paths := m.paths(u)
		for v := range up + 2 {
			m.path(t, u, v, paths)
		}
		wanted, there := m.edges[u]
		if told, ok := m.f.Edge(u); ok != there || told != wanted {
			t.Fatalf("Edge(%d) = %v, %v, want %v, %v", u, told, ok, wanted, there)
		}
	}
	size(t, m.f, len(m.verts), len(m.edges))
}

// some asks this and that.
func (m *model) some(t *testing.T, r *rand.Rand, up int) {
	t.Helper()
	for range r.IntN(4) {
		u := r.IntN(up + 2)
		m.path(t, u, r.IntN(up+2), m.paths(u))
	}
}

func (m *model) call(t *testing.T, r *rand.Rand, up int) {
	t.Helper()
	id := func() int {
		if r.IntN(40) == 0 {
			return noIds[r.IntN(len(noIds))]
		}
		return 1 + r.IntN(up)
	}
	weight := []int64{0, 1, 2, int64(r.IntN(9)), r.Int64N(api.MaxWeight), api.MaxWeight}[r.IntN(6)]
	if r.IntN(40) == 0 {
		weight = []int64{-1, api.MaxWeight + 1}[r.IntN(2)]
	}
	switch r.IntN(10) {
	case 0, 1:
		m.addV(t, id())
	case 2:
		m.delV(t, id())
	case 3, 4, 5, 6, 7:
		m.link(t, api.Edge{Id: id(), U: id(), V: id(), W: weight})
	case 8, 9:
		m.cut(t, id())
	}
}

// P17.1: any calls in any order.
func TestAnyCalls(t *testing.T) {
	fails := map[api.Errno]int{}
	for run := range uint64(40) {
		r := rand.New(rand.NewPCG(run, 17))
		m := newModel()
		m.fails = fails
		up := []int{3, 8, 20}[run%3]
		for i := range 400 {
			m.call(t, r, up)
			if run%2 == 0 || i%50 == 0 {
				m.all(t, up)
			} else {
				m.some(t, r, up)
			}
		}
		m.all(t, up)
	}
	for _, e := range []api.Errno{api.OK, api.ErrArg, api.ErrExists, api.ErrNotFound, api.ErrInUse, api.ErrWeight, api.ErrLink, api.ErrUnder} {
		if fails[e] < 100 {
			t.Errorf("%d came up %d times", e, fails[e])
		}
	}
}

// grown is a model of one tree, of which each vertex hangs on one of those ahead of it, no farther back than told.
func grown(t *testing.T, r *rand.Rand, verts, back int) *model {
	t.Helper()
	m := newModel()
	for v := 1; v <= verts; v++ {
		m.addV(t, v)
		if v > 1 {
			ends := [2]int{v, v - 1 - r.IntN(min(back, v-1))}
			i := r.IntN(2)
			m.link(t, api.Edge{Id: v, U: ends[i], V: ends[1-i], W: int64(r.IntN(50))})
		}
	}
	return m
}

// anyOf is any of the vertices at which paths end.
func anyOf(r *rand.Rand, paths map[int]api.Agg) int {
	ends := slices.Sorted(maps.Keys(paths))
	return ends[r.IntN(len(ends))]
}

// P17.1: great trees, that fall apart and come together anew.
func TestGreatTrees(t *testing.T) {
	const verts = 200
	for _, back := range []int{1, 3, 40, verts} {
		r := rand.New(rand.NewPCG(17, uint64(back)))
		m := grown(t, r, verts, back)
		m.all(t, verts)
		for range 400 {
			e := m.edges[2+r.IntN(verts-1)]
			m.cut(t, e.Id)
			e.U, e.V, e.W = anyOf(r, m.paths(e.U)), anyOf(r, m.paths(e.V)), int64(r.IntN(50))
			m.link(t, e)
			u := 1 + r.IntN(verts)
			paths := m.paths(u)
			m.path(t, u, e.V, paths)
			m.path(t, u, 1+r.IntN(verts), paths)
		}
		m.all(t, verts)
	}
}

// P17.2: a path there is the path back; of three vertices the paths between them are ways from the one where they part.
func TestThreeVertices(t *testing.T) {
	for seed := range uint64(8) {
		r := rand.New(rand.NewPCG(seed, 172))
		const verts = 12
		f := grown(t, r, verts, 1+int(seed)).f
		path := func(u, v int) api.Agg {
			t.Helper()
			there, e := f.Along(u, v)
			want(t, "Along", e, api.OK)
			back, e := f.Along(v, u)
			got(t, "Along", back, e, there, api.OK)
			return there
		}
		// through: is the path from u to v the one from u to x, and from x to v.
		through := func(u, x, v int) bool {
			t.Helper()
			one, other, both := path(u, x), path(x, v), path(u, v)
			if one.Sum+other.Sum != both.Sum {
				return false
			}
			got(t, "Max", both.Max, api.OK, greater(one.Max, other.Max), api.OK)
			return true
		}
		for i := range verts * verts * verts {
			u, v, w := 1+i%verts, 1+i/verts%verts, 1+i/verts/verts
			parts := 0
			for x := 1; x <= verts; x++ {
				if through(u, x, v) && through(v, x, w) && through(w, x, u) {
					parts++
				}
			}
			if parts != 1 {
				t.Fatalf("seed %d: %d, %d, %d part at %d vertices", seed, u, v, w, parts)
			}
		}
	}
}

// P17.3: what is asked of one forest, and refused by it, changes nothing that it tells later: it tells what another one does that wasn't asked.
func TestAsking(t *testing.T) {
	for seed := range uint64(20) {
		r := rand.New(rand.NewPCG(seed, 173))
		m, quiet := newModel(), linkcut.New()
		const up = 16
		for range 200 {
			id, u, v := 1+r.IntN(up), 1+r.IntN(up), 1+r.IntN(up)
			e := api.Edge{Id: id, U: u, V: v, W: int64(r.IntN(5))}
			switch r.IntN(5) {
			case 0:
				want(t, "AddV", quiet.AddV(u), m.f.AddV(u))
			case 1, 2, 3:
				want(t, "Link", quiet.Link(e), m.f.Link(e))
			case 4:
				want(t, "Cut", quiet.Cut(id), m.f.Cut(id))
			}
			for range r.IntN(20) {
				x, y := r.IntN(up+2), r.IntN(up+2)
				m.f.Along(x, y)
				m.f.Joined(y, x)
				m.f.Edge(x)
				m.f.Len()
				m.f.DelV(-x)
				m.f.Link(api.Edge{Id: id, U: x, V: x})
			}
		}
		for u := range up + 2 {
			for v := range up + 2 {
				path, e := m.f.Along(u, v)
				told, err := quiet.Along(u, v)
				got(t, "Along", told, err, path, e)
			}
			one, has := m.f.Edge(u)
			if other, ok := quiet.Edge(u); ok != has || other != one {
				t.Fatalf("Edge(%d) = %v, %v, want %v, %v", u, other, ok, one, has)
			}
		}
		verts, edges := m.f.Len()
		size(t, quiet, verts, edges)
	}
}
