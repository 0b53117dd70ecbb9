package span_test

import (
	"maps"
	"math/rand/v2"
	"slices"
	"testing"

	"skein/api"
	"skein/plain"
	"skein/span"
)

// model is what a forest has to tell: which vertices there are, and which edges.
type model struct {
	f     *span.Forest
	verts map[int]bool
	edges map[int]api.Edge
	fails map[api.Errno]int
}

func newModel(seeds ...int) *model {
	return &model{f: span.New(seeds...), verts: map[int]bool{}, edges: map[int]api.Edge{}, fails: map[api.Errno]int{}}
}

// distances are those from a vertex to all that are joined to it, found by going from one to the next.
func (m *model) distances(u int) map[int]int64 {
	at := map[int][]api.Edge{}
	for _, e := range m.edges {
		at[e.U] = append(at[e.U], e)
		at[e.V] = append(at[e.V], e)
	}
	out := map[int]int64{u: 0}
	for next := []int{u}; len(next) > 0; next = next[1:] {
		for _, e := range at[next[0]] {
			v := e.U + e.V - next[0]
			if _, known := out[v]; !known {
				out[v] = out[next[0]] + e.W
				next = append(next, v)
			}
		}
	}
	return out
}

// farthest is the greatest of some distances.
func farthest(distances map[int]int64) (far int64) {
	for _, d := range distances {
		far = max(far, d)
	}
	return far
}

// span is the greatest distance in a vertex's tree.
func (m *model) span(u int) (far int64) {
	for v := range m.distances(u) {
		far = max(far, farthest(m.distances(v)))
	}
	return far
}

type fault struct {
	applies bool
	e       api.Errno
}

// end is how a call has to end: with the first of the errors that applies.
func (m *model) end(t *testing.T, what string, e api.Errno, applies ...fault) bool {
	t.Helper()
	wanted := api.OK
	for _, x := range applies {
		if x.applies {
			wanted = x.e
			break
		}
	}
	m.fails[wanted]++
	want(t, what, e, wanted)
	return wanted == api.OK
}

func isId(id int) bool { return id >= 1 && id <= api.MaxId }

func (m *model) addV(t *testing.T, v int) {
	t.Helper()
	if m.end(t, "AddV", m.f.AddV(v), fault{!isId(v), api.ErrArg}, fault{m.verts[v], api.ErrExists}) {
		m.verts[v] = true
	}
}

func (m *model) delV(t *testing.T, v int) {
	t.Helper()
	hangs := len(m.distances(v)) > 1
	if m.end(t, "DelV", m.f.DelV(v), fault{!isId(v), api.ErrArg}, fault{!m.verts[v], api.ErrNotFound}, fault{hangs, api.ErrInUse}) {
		delete(m.verts, v)
	}
}

func (m *model) link(t *testing.T, e api.Edge) {
	t.Helper()
	_, there := m.edges[e.Id]
	_, joined := m.distances(e.U)[e.V]
	if m.end(t, "Link", m.f.Link(e),
		fault{!isId(e.Id) || !isId(e.U) || !isId(e.V), api.ErrArg},
		fault{e.W < 0 || e.W > api.MaxWeight, api.ErrWeight},
		fault{there, api.ErrExists},
		fault{!m.verts[e.U] || !m.verts[e.V], api.ErrNotFound},
		fault{joined, api.ErrLink}) {
		m.edges[e.Id] = e
	}
}

func (m *model) cut(t *testing.T, id int) {
	t.Helper()
	_, there := m.edges[id]
	if m.end(t, "Cut", m.f.Cut(id), fault{!isId(id), api.ErrArg}, fault{!there, api.ErrUnder}) {
		delete(m.edges, id)
	}
}

// same holds what is told of a vertex against the model.
func (m *model) same(t *testing.T, u, up int) {
	t.Helper()
	if !m.verts[u] {
		noVertex(t, m.f, u)
		return
	}
	far := m.distances(u)
	ends(t, m.f, u, m.span(u), len(far) == 1)
	for v := range up + 2 {
		wanted, joined := far[v]
		switch {
		case joined:
			distance(t, m.f, u, v, wanted, api.OK)
		case m.verts[v]:
			distance(t, m.f, u, v, 0, api.ErrNoPath)
		default:
			distance(t, m.f, u, v, 0, api.ErrNotFound)
		}
	}
}

// all holds everything that is told against the model, of vertices up to one.
func (m *model) all(t *testing.T, up int) {
	t.Helper()
	for v := range up + 2 {
		m.same(t, v, up)
	}
	size(t, m.f, len(m.verts), len(m.edges))
}

// anyWeight is a weight: few different ones, or any.
func anyWeight(r *rand.Rand) int64 {
	return []int64{0, 1, 2, int64(r.IntN(9)), r.Int64N(api.MaxWeight), api.MaxWeight}[r.IntN(6)]
}

func (m *model) call(t *testing.T, r *rand.Rand, up int) {
	t.Helper()
	id := func() int {
		if r.IntN(40) == 0 {
			return noIds[r.IntN(len(noIds))]
		}
		return 1 + r.IntN(up)
	}
	weight := anyWeight(r)
	if r.IntN(40) == 0 {
		weight = noWeights[r.IntN(len(noWeights))]
	}
	switch r.IntN(10) {
	case 0, 1:
		m.addV(t, id())
	case 2:
		m.delV(t, id())
	case 3, 4, 5, 6, 7:
		m.link(t, api.Edge{Id: id(), U: id(), V: id(), W: weight})
	default:
		m.cut(t, id())
	}
}

// manySeeds is what chance may say.
func manySeeds() map[string][]int {
	r := rand.New(rand.NewPCG(20, 0))
	seeds := map[string][]int{"none": nil, "nought": {0}, "two": {3, -3}}
	for i := range 100 {
		seeds["rising"] = append(seeds["rising"], i)
		seeds["falling"] = append(seeds["falling"], -i)
		seeds["any"] = append(seeds["any"], int(r.Uint64()))
	}
	return seeds
}

// P20.1: any calls in any order, whatever chance says.
func TestAnyCalls(t *testing.T) {
	fails := map[api.Errno]int{}
	for _, seeds := range manySeeds() {
		for run := range uint64(9) {
			r := rand.New(rand.NewPCG(run, 20))
			m := newModel(seeds...)
			m.fails = fails
			up := []int{3, 8, 16}[run%3]
			for i := range 400 {
				m.call(t, r, up)
				if up < 10 || i%10 == 0 {
					m.all(t, up)
				} else {
					m.same(t, 1+r.IntN(up), up)
				}
			}
			m.all(t, up)
		}
	}
	for _, e := range []api.Errno{api.OK, api.ErrArg, api.ErrExists, api.ErrNotFound, api.ErrInUse, api.ErrWeight, api.ErrLink, api.ErrUnder} {
		if fails[e] < 100 {
			t.Errorf("%d came up %d times", e, fails[e])
		}
	}
}

// grown is a model of one tree, each vertex of which hangs on one that is no farther behind it than told.
func grown(t *testing.T, r *rand.Rand, verts, far int) *model {
	t.Helper()
	m := newModel(r.IntN(9))
	for v := 1; v <= verts; v++ {
		m.addV(t, v)
		if v > 1 {
			m.link(t, api.Edge{Id: v, U: v, V: max(1, v-1-r.IntN(far)), W: anyWeight(r)})
		}
	}
	return m
}

// move takes an edge away and lets it come back between any two of the parts.
func (m *model) move(t *testing.T, r *rand.Rand, id int) {
	t.Helper()
	e := m.edges[id]
	m.cut(t, id)
	u := anyOf(r, m.distances(e.U))
	v := anyOf(r, m.distances(e.V))
	m.link(t, api.Edge{Id: id, U: u, V: v, W: anyWeight(r)})
}

func anyOf(r *rand.Rand, of map[int]int64) int {
	ids := slices.Sorted(maps.Keys(of))
	return ids[r.IntN(len(ids))]
}

// P20.1: great trees of any form, whose edges go and come elsewhere, against what going through the whole net finds.
func TestGreatTrees(t *testing.T) {
	const verts = 150
	for _, far := range []int{1, 3, 20, verts} {
		r := rand.New(rand.NewPCG(20, uint64(far)))
		m := grown(t, r, verts, far)
		for range 300 {
			m.move(t, r, 2+r.IntN(verts-1))
			u := 1 + r.IntN(verts)
			ends(t, m.f, u, m.asLayer6(t, u), false)
		}
		for _, id := range r.Perm(verts - 1) {
			m.cut(t, id+2)
			u := 1 + r.IntN(verts)
			ends(t, m.f, u, m.asLayer6(t, u), len(m.distances(u)) == 1)
		}
	}
}

// asLayer6 is the span of a vertex's tree, as going through the whole net finds it.
func (m *model) asLayer6(t *testing.T, u int) int64 {
	t.Helper()
	net := api.Net{
		Verts: slices.Sorted(maps.Keys(m.verts)),
		Edges: slices.SortedFunc(maps.Values(m.edges), func(a, b api.Edge) int { return a.Id - b.Id }),
	}
	far, e := plain.Span(net, u)
	if e == api.ErrOverflow {
		return m.span(u)
	}
	want(t, "plain.Span", e, api.OK)
	return far
}

// P20.2: where two trees are linked, the new span is the greatest of theirs and of the ways through the edge; a part of a tree spans no more than the tree.
func TestLinkAndCut(t *testing.T) {
	for seed := range uint64(40) {
		r := rand.New(rand.NewPCG(seed, 202))
		const verts = 24
		m := grown(t, r, verts, []int{1, 4, verts}[seed%3])
		for range 60 {
			id := 2 + r.IntN(verts-1)
			whole, e := m.f.Span(1)
			want(t, "Span", e, api.OK)
			gone := m.edges[id]
			m.cut(t, id)
			one, _ := m.f.Span(gone.U)
			other, _ := m.f.Span(gone.V)
			if max(one, other) > whole {
				t.Fatalf("seed %d: parts of spans %d and %d, of a tree's %d", seed, one, other, whole)
			}
			from, to := m.distances(gone.U), m.distances(gone.V)
			u, v := anyOf(r, from), anyOf(r, to)
			w := anyWeight(r)
			through := farthest(m.distances(u)) + w + farthest(m.distances(v))
			m.link(t, api.Edge{Id: id, U: u, V: v, W: w})
			whole, e = m.f.Span(gone.U)
			got(t, "Span", whole, e, max(one, other, through), api.OK)
		}
	}
}
