package euler_test

import (
	"maps"
	"math/rand/v2"
	"slices"
	"testing"

	"skein/api"
	"skein/euler"
)

// edge is an edge of a model.
type edge struct {
	u, v   int
	marked bool
}

// model is what a forest has to tell: which vertices there are, marked or not, and which edges.
type model struct {
	f     *euler.Forest
	verts map[int]bool
	edges map[int]edge
	fails map[api.Errno]int
}

func newModel(seeds ...int) *model {
	return &model{f: euler.New(seeds...), verts: map[int]bool{}, edges: map[int]edge{}, fails: map[api.Errno]int{}}
}

func rising(ids map[int]bool) []int { return slices.Sorted(maps.Keys(ids)) }

// tree is the vertices and the edges of a vertex's tree, found by going from one to the next.
func (m *model) tree(u int) (verts, edges map[int]bool) {
	verts, edges = map[int]bool{u: true}, map[int]bool{}
	for again := true; again; {
		again = false
		for id, e := range m.edges {
			if !edges[id] && (verts[e.u] || verts[e.v]) {
				verts[e.u], verts[e.v], edges[id] = true, true, true
				again = true
			}
		}
	}
	return verts, edges
}

func isId(id int) bool { return id >= 1 && id <= api.MaxId }

func (m *model) has(v int) bool {
	_, ok := m.verts[v]
	return ok
}

// end is how a call has to end: with the first of the errors that applies.
func (m *model) end(t *testing.T, what string, e api.Errno, applies ...fault) bool {
	t.Helper()
	wanted := api.OK
	for _, x := range applies {
		if x.applies {
			wanted = x.e
			break
		}
	}
	m.fails[wanted]++
	want(t, what, e, wanted)
	return wanted == api.OK
}

type fault struct {
	applies bool
	e       api.Errno
}

func (m *model) addV(t *testing.T, v int) {
	t.Helper()
	if m.end(t, "AddV", m.f.AddV(v), fault{!isId(v), api.ErrArg}, fault{m.has(v), api.ErrExists}, fault{len(m.verts) == api.MaxVerts, api.ErrMany}) {
		m.verts[v] = false
	}
}

func (m *model) delV(t *testing.T, v int) {
	t.Helper()
	tree, _ := m.tree(v)
	if m.end(t, "DelV", m.f.DelV(v), fault{!isId(v), api.ErrArg}, fault{!m.has(v), api.ErrNotFound}, fault{len(tree) > 1, api.ErrInUse}) {
		delete(m.verts, v)
	}
}

func (m *model) link(t *testing.T, id, u, v int) {
	t.Helper()
	_, there := m.edges[id]
	tree, _ := m.tree(u)
	if m.end(t, "Link", m.f.Link(id, u, v), fault{!isId(id) || !isId(u) || !isId(v), api.ErrArg}, fault{there, api.ErrExists}, fault{!m.has(u) || !m.has(v), api.ErrNotFound}, fault{tree[v], api.ErrLink}) {
		m.edges[id] = edge{u: u, v: v}
	}
}

func (m *model) cut(t *testing.T, id int) {
	t.Helper()
	_, there := m.edges[id]
	if m.end(t, "Cut", m.f.Cut(id), fault{!isId(id), api.ErrArg}, fault{!there, api.ErrUnder}) {
		delete(m.edges, id)
	}
}

func (m *model) mark(t *testing.T, isEdge bool, id int, on bool) {
	t.Helper()
	e, there := m.edges[id]
	switch {
	case isEdge:
		if m.end(t, "MarkE", m.f.MarkE(id, on), fault{!there, api.ErrUnder}) {
			e.marked = on
			m.edges[id] = e
		}
	case m.end(t, "MarkV", m.f.MarkV(id, on), fault{!m.has(id), api.ErrNotFound}):
		m.verts[id] = on
	}
}

// same holds what is told of a vertex's tree against the model.
func (m *model) same(t *testing.T, u int) {
	t.Helper()
	if !m.has(u) {
		noVertex(t, m.f, u)
		return
	}
	inV, inE := m.tree(u)
	ids, e := m.f.Verts(u)
	list(t, "Verts", ids, e, rising(inV)...)
	ids, e = m.f.Edges(u)
	list(t, "Edges", ids, e, rising(inE)...)
	size, e := m.f.Size(u)
	got(t, "Size", size, e, len(inV), api.OK)
	for v := range m.verts {
		joined, e := m.f.Joined(u, v)
		got(t, "Joined", joined, e, inV[v], api.OK)
	}
	maps.DeleteFunc(inV, func(v int, _ bool) bool { return !m.verts[v] })
	maps.DeleteFunc(inE, func(id int, _ bool) bool { return !m.edges[id].marked })
	v, e := m.f.SomeV(u)
	oneOf(t, "SomeV", v, e, inV)
	id, e := m.f.SomeE(u)
	oneOf(t, "SomeE", id, e, inE)
}

// oneOf wants one of the marked ones, 0 if there is none.
func oneOf(t *testing.T, what string, id int, e api.Errno, marked map[int]bool) {
	t.Helper()
	if e != api.OK || (id == 0) != (len(marked) == 0) || id != 0 && !marked[id] {
		t.Fatalf("%s = %d, %d, marked are %v", what, id, e, rising(marked))
	}
}

// all holds everything that is told against the model; of vertices up to one at least.
func (m *model) all(t *testing.T, up int) {
	t.Helper()
	for v := range up + 2 {
		m.same(t, v)
	}
	for v := range m.verts {
		m.same(t, v)
	}
	for id := range 3 * up {
		if _, there := m.edges[id]; m.f.Has(id) != there {
			t.Fatalf("Has(%d) = %v", id, !there)
		}
	}
	if m.f.Len() != len(m.verts) {
		t.Fatalf("Len = %d, want %d", m.f.Len(), len(m.verts))
	}
}

func (m *model) call(t *testing.T, r *rand.Rand, up int) {
	t.Helper()
	id := func() int {
		if r.IntN(40) == 0 {
			return noIds[r.IntN(len(noIds))]
		}
		return 1 + r.IntN(up)
	}
	switch r.IntN(12) {
	case 0, 1:
		m.addV(t, id())
	case 2:
		m.delV(t, id())
	case 3, 4, 5, 6, 7:
		m.link(t, id(), id(), id())
	case 8, 9:
		m.cut(t, id())
	case 10, 11:
		m.mark(t, r.IntN(2) == 0, id(), r.IntN(3) > 0)
	}
}

// manySeeds is what chance may say.
func manySeeds() map[string][]int {
	r := rand.New(rand.NewPCG(16, 0))
	seeds := map[string][]int{"none": nil, "nought": {0}, "two": {3, -3}}
	for i := range 100 {
		seeds["rising"] = append(seeds["rising"], i)
		seeds["falling"] = append(seeds["falling"], -i)
		seeds["any"] = append(seeds["any"], int(r.Uint64()))
	}
	return seeds
}

// P16.1: any calls in any order, whatever chance says.
func TestAnyCalls(t *testing.T) {
	fails := map[api.Errno]int{}
	for _, seeds := range manySeeds() {
		for run := range uint64(12) {
			r := rand.New(rand.NewPCG(run, 16))
			m := newModel(seeds...)
			m.fails = fails
			up := []int{3, 8, 30}[run%3]
			for range 300 {
				m.call(t, r, up)
				m.all(t, up)
			}
		}
	}
	for _, e := range []api.Errno{api.OK, api.ErrArg, api.ErrExists, api.ErrNotFound, api.ErrInUse, api.ErrLink, api.ErrUnder} {
		if fails[e] < 100 {
			t.Errorf("%d came up %d times", e, fails[e])
		}
	}
}

// P16.1: many vertices, whose trees are as long as can be or fall apart again.
func TestManyTrees(t *testing.T) {
	r := rand.New(rand.NewPCG(16, 1))
	m := newModel(4, 5, 6)
	for v := 1; v <= 300; v++ {
		m.addV(t, v)
	}
	for range 3000 {
		m.call(t, r, 300)
	}
	m.all(t, 300)
	for id := range 300 {
		m.cut(t, id)
	}
	m.all(t, 300)
}

// P16.1: of the marked ones each is told some time, when those that were told are marked no more.
func TestEachMarkIsTold(t *testing.T) {
	r := rand.New(rand.NewPCG(16, 2))
	m := newModel(8)
	for v := 1; v <= 60; v++ {
		m.addV(t, v)
		if v > 1 {
			m.link(t, v, 1+r.IntN(v-1), v)
		}
		m.mark(t, false, v, v%3 == 0)
		m.mark(t, true, v, v%2 == 0)
	}
	count := func(ask func(int) (int, api.Errno), isEdge bool) (n int) {
		for {
			id, e := ask(1 + r.IntN(60))
			want(t, "SomeV, SomeE", e, api.OK)
			if id == 0 {
				return n
			}
			m.same(t, 1)
			m.mark(t, isEdge, id, false)
			n++
		}
	}
	if n := count(m.f.SomeV, false); n != 20 {
		t.Errorf("%d vertices were told, want 20", n)
	}
	if n := count(m.f.SomeE, true); n != 30 {
		t.Errorf("%d edges were told, want 30", n)
	}
}

// told is what is told of each tree, but for which one of its marks.
type told struct {
	verts, edges []int
	v, e         bool
}

func (m *model) told() map[int]told {
	out := map[int]told{}
	for u := range m.verts {
		var x told
		x.verts, _ = m.f.Verts(u)
		x.edges, _ = m.f.Edges(u)
		v, _ := m.f.SomeV(u)
		e, _ := m.f.SomeE(u)
		x.v, x.e = v > 0, e > 0
		out[u] = x
	}
	return out
}

func (x told) equal(y told) bool {
	return slices.Equal(x.verts, y.verts) && slices.Equal(x.edges, y.edges) && x.v == y.v && x.e == y.e
}

// P16.2: Link and Cut of the same edge undo one another; what is told of other trees stays.
func TestLinkAndCut(t *testing.T) {
	for seed := range uint64(30) {
		r := rand.New(rand.NewPCG(seed, 17))
		m := newModel(int(seed), 1, 2)
		const up = 20
		for range 150 {
			m.call(t, r, up)
		}
		for u := 1; u <= up; u++ {
			for v := 1; v <= up; v++ {
				tree, _ := m.tree(u)
				if !m.has(u) || !m.has(v) || tree[v] {
					continue
				}
				before := m.told()
				m.link(t, 1000, u, v)
				m.untouched(t, before, u, v)
				m.cut(t, 1000)
				if !maps.EqualFunc(before, m.told(), told.equal) {
					t.Fatalf("seed %d: a link of %d and %d leaves traces", seed, u, v)
				}
			}
		}
		for id, x := range maps.Clone(m.edges) {
			m.mark(t, true, id, false) // a mark goes with its edge
			before := m.told()
			m.cut(t, id)
			m.untouched(t, before, x.u, x.u)
			m.link(t, id, x.v, x.u)
			if !maps.EqualFunc(before, m.told(), told.equal) {
				t.Fatalf("seed %d: a cut of %d leaves traces", seed, id)
			}
		}
	}
}

// untouched wants what was told of all trees but those of two vertices.
func (m *model) untouched(t *testing.T, before map[int]told, u, v int) {
	t.Helper()
	for w, now := range m.told() {
		if !slices.Contains(before[u].verts, w) && !slices.Contains(before[v].verts, w) && !now.equal(before[w]) {
			t.Fatalf("the tree of %d was touched", w)
		}
	}
}
