package hdt_test

import (
	"maps"
	"math/rand/v2"
	"slices"
	"testing"

	"skein/api"
	"skein/hdt"
)

// model is what a graph has to tell: which vertices there are, and which edges, by their ends.
type model struct {
	g     *hdt.Graph
	verts map[int]bool
	edges map[int][2]int
	fails map[api.Errno]int
}

func newModel(seeds ...int) *model {
	return &model{g: hdt.New(seeds...), verts: map[int]bool{}, edges: map[int][2]int{}, fails: map[api.Errno]int{}}
}

// joined are all lists of joined vertices, rising, found by going from one vertex to the next.
func (m *model) joined() (lists [][]int) {
	at := map[int][]int{}
	for _, x := range m.edges {
		at[x[0]] = append(at[x[0]], x[1])
		at[x[1]] = append(at[x[1]], x[0])
	}
	known := map[int]bool{}
	for _, u := range slices.Sorted(maps.Keys(m.verts)) {
		if known[u] {
			continue
		}
		known[u] = true
		list := []int{u}
		for i := 0; i < len(list); i++ {
			for _, v := range at[list[i]] {
				if !known[v] {
					known[v] = true
					list = append(list, v)
				}
			}
		}
		slices.Sort(list)
		lists = append(lists, list)
	}
	return lists
}

type fault struct {
	applies bool
	e       api.Errno
}

// end is how a call has to end: with the first of the errors that applies.
func (m *model) end(t *testing.T, what string, e api.Errno, applies ...fault) bool {
	t.Helper()
	wanted := api.OK
	for _, x := range applies {
		if x.applies {
			wanted = x.e
			break
		}
	}
	m.fails[wanted]++
	want(t, what, e, wanted)
	return wanted == api.OK
}

func isId(id int) bool { return id >= 1 && id <= api.MaxId }

// hangs tells whether an edge has a vertex as an end.
func (m *model) hangs(v int) bool {
	for _, x := range m.edges {
		if x[0] == v || x[1] == v {
			return true
		}
	}
	return false
}

func (m *model) addV(t *testing.T, v int) {
	t.Helper()
	if m.end(t, "AddV", m.g.AddV(v), fault{!isId(v), api.ErrArg}, fault{m.verts[v], api.ErrExists}) {
		m.verts[v] = true
	}
}

func (m *model) delV(t *testing.T, v int) {
	t.Helper()
	if m.end(t, "DelV", m.g.DelV(v), fault{!isId(v), api.ErrArg}, fault{!m.verts[v], api.ErrNotFound}, fault{m.hangs(v), api.ErrInUse}) {
		delete(m.verts, v)
	}
}

func (m *model) addE(t *testing.T, id, u, v int) {
	t.Helper()
	_, there := m.edges[id]
	if m.end(t, "AddE", m.g.AddE(id, u, v),
		fault{!isId(id) || !isId(u) || !isId(v), api.ErrArg},
		fault{there, api.ErrExists},
		fault{!m.verts[u] || !m.verts[v], api.ErrNotFound},
		fault{len(m.edges) == api.MaxEdges, api.ErrMany}) {
		m.edges[id] = [2]int{u, v}
	}
}

func (m *model) delE(t *testing.T, id int) {
	t.Helper()
	_, there := m.edges[id]
	if m.end(t, "DelE", m.g.DelE(id), fault{!isId(id), api.ErrArg}, fault{!there, api.ErrUnder}) {
		delete(m.edges, id)
	}
}

// all holds everything that is told against the model, of ids up to one.
func (m *model) all(t *testing.T, up int) {
	t.Helper()
	lists(t, m.g, m.joined()...)
	size(t, m.g, len(m.verts), len(m.edges))
	for v := range up + 2 {
		if !m.verts[v] {
			noVertex(t, m.g, v)
		}
	}
}

// sizes holds what is told of the lists' sizes against the model: so much is quick in great graphs.
func (m *model) sizes(t *testing.T) {
	t.Helper()
	lists := m.joined()
	if m.g.Trees() != len(lists) {
		t.Fatalf("Trees = %d, want %d", m.g.Trees(), len(lists))
	}
	for i, list := range lists {
		for _, u := range []int{list[0], list[len(list)/2], list[len(list)-1]} {
			n, e := m.g.Size(u)
			got(t, "Size", n, e, len(list), api.OK)
			yes, e := m.g.Joined(list[0], u)
			got(t, "Joined", yes, e, true, api.OK)
		}
		told, e := m.g.Verts(list[0])
		if e != api.OK || !slices.Equal(told, list) {
			t.Fatalf("Verts(%d) = %v, %d, want %v", list[0], told, e, list)
		}
		if i > 0 {
			yes, e := m.g.Joined(list[0], lists[i-1][0])
			got(t, "Joined", yes, e, false, api.OK)
		}
	}
}

func (m *model) call(t *testing.T, r *rand.Rand, up int) {
	t.Helper()
	id := func() int {
		if r.IntN(40) == 0 {
			return noIds[r.IntN(len(noIds))]
		}
		return 1 + r.IntN(up)
	}
	switch r.IntN(12) {
	case 0, 1:
		m.addV(t, id())
	case 2:
		m.delV(t, id())
	case 3, 4, 5, 6, 7:
		m.addE(t, id()+r.IntN(2)*up, id(), id())
	default:
		m.delE(t, id()+r.IntN(2)*up)
	}
}

// manySeeds is what chance may say.
func manySeeds() map[string][]int {
	r := rand.New(rand.NewPCG(18, 0))
	seeds := map[string][]int{"none": nil, "nought": {0}, "two": {3, -3}}
	for i := range 100 {
		seeds["rising"] = append(seeds["rising"], i)
		seeds["falling"] = append(seeds["falling"], -i)
		seeds["any"] = append(seeds["any"], int(r.Uint64()))
	}
	return seeds
}

// P18.1: any calls in any order, whatever chance says.
func TestAnyCalls(t *testing.T) {
	fails := map[api.Errno]int{}
	for _, seeds := range manySeeds() {
		for run := range uint64(12) {
			r := rand.New(rand.NewPCG(run, 18))
			m := newModel(seeds...)
			m.fails = fails
			up := []int{3, 8, 20}[run%3]
			for range 400 {
				m.call(t, r, up)
				m.all(t, up)
			}
		}
	}
	for _, e := range []api.Errno{api.OK, api.ErrArg, api.ErrExists, api.ErrNotFound, api.ErrInUse, api.ErrUnder} {
		if fails[e] < 100 {
			t.Errorf("%d came up %d times", e, fails[e])
		}
	}
}

// forms are forms of graphs: between which vertices an edge lies.
func forms(r *rand.Rand, verts int) map[string]func(id int) (int, int) {
	return map[string]func(id int) (int, int){
		"ring":   func(id int) (int, int) { return id % verts, (id + 1) % verts },
		"rings":  func(id int) (int, int) { return id % verts, (id + 1 + id/verts*7) % verts },
		"wheel":  func(id int) (int, int) { return id % verts * (id / verts % 2), (id + 1) % verts },
		"star":   func(id int) (int, int) { return 0, id % verts },
		"tree":   func(id int) (int, int) { return id % verts, id % verts / 2 },
		"grid":   func(id int) (int, int) { return id / 2 % verts, (id/2 + 1 + id%2*16) % verts },
		"lumps":  func(id int) (int, int) { return id % verts, id%verts/8*8 + r.IntN(9)%8 },
		"any":    func(id int) (int, int) { return r.IntN(verts), r.IntN(verts) },
		"nearby": func(id int) (int, int) { u := r.IntN(verts); return u, min(u+r.IntN(5), verts-1) },
	}
}

// P18.1: great graphs, whose edges go in some order and come again.
func TestGreatGraphs(t *testing.T) {
	const verts, edges = 240, 400
	for name, ends := range forms(rand.New(rand.NewPCG(18, 1)), verts) {
		for seed := range uint64(3) {
			r := rand.New(rand.NewPCG(18, 2+seed))
			m := newModel(int(seed), 7)
			for v := range verts {
				m.addV(t, v+1)
			}
			for id := range edges {
				u, v := ends(id)
				m.addE(t, id+1, u+1, v+1)
			}
			m.sizes(t)
			for i, id := range r.Perm(edges) {
				if seed == 0 {
					id = i
				}
				m.delE(t, id+1)
				if seed == 2 && i%3 == 0 {
					u, v := ends(r.IntN(edges))
					m.addE(t, id+1, u+1, v+1)
				}
				if i%5 == 0 {
					m.sizes(t)
				}
			}
			m.sizes(t)
			if t.Failed() {
				t.Fatal(name)
			}
		}
	}
}

// told is what is told of all lists.
func (m *model) told(t *testing.T) (lists [][]int) {
	t.Helper()
	for _, u := range slices.Sorted(maps.Keys(m.verts)) {
		list, e := m.g.Verts(u)
		want(t, "Verts", e, api.OK)
		if list[0] == u {
			lists = append(lists, list)
		}
	}
	if len(lists) != m.g.Trees() {
		t.Fatalf("%d lists, Trees = %d", len(lists), m.g.Trees())
	}
	return lists
}

func sameLists(a, b [][]int) bool { return slices.EqualFunc(a, b, slices.Equal[[]int]) }

// without are all lists but those of two vertices, and those.
func without(lists [][]int, u, v int) (rest, gone [][]int) {
	for _, list := range lists {
		if slices.Contains(list, u) || slices.Contains(list, v) {
			gone = append(gone, list)
		} else {
			rest = append(rest, list)
		}
	}
	return rest, gone
}

// P18.2: an edge between joined vertices changes no list, neither coming nor going; one between others joins their two lists, and parts them when it goes.
func TestComesAndGoes(t *testing.T) {
	for seed := range uint64(24) {
		r := rand.New(rand.NewPCG(seed, 182))
		m := newModel(int(seed), 1, 2)
		const up = 16
		for range 150 {
			m.call(t, r, up)
		}
		verts := slices.Sorted(maps.Keys(m.verts))
		for _, u := range verts {
			for _, v := range verts {
				before := m.told(t)
				were, e := m.g.Joined(u, v)
				want(t, "Joined", e, api.OK)
				m.addE(t, 1000, u, v)
				between := m.told(t)
				m.delE(t, 1000)
				if !sameLists(m.told(t), before) {
					t.Fatalf("seed %d: an edge from %d to %d leaves traces", seed, u, v)
				}
				if were {
					if !sameLists(between, before) {
						t.Fatalf("seed %d: an edge from %d to %d changes a list", seed, u, v)
					}
					continue
				}
				rest, two := without(before, u, v)
				others, one := without(between, u, v)
				if !sameLists(rest, others) || len(two) != 2 || len(one) != 1 || !slices.Equal(one[0], rising(two[0], two[1])) {
					t.Fatalf("seed %d: an edge from %d to %d makes %v of %v", seed, u, v, between, before)
				}
			}
		}
	}
}

func rising(a, b []int) []int { return slices.Sorted(slices.Values(slices.Concat(a, b))) }

// P18.2: as long as another way is left, an edge that goes parts nothing, whichever of the way round it is.
func TestAnotherWay(t *testing.T) {
	for verts := 1; verts <= 40; verts++ {
		for gone := range verts {
			m := newModel(gone)
			for v := range verts {
				m.addV(t, v+1)
			}
			for v := range verts { // a way round
				m.addE(t, v+1, v+1, (v+1)%verts+1)
			}
			for round := range 3 {
				id := (gone+round*7)%verts + 1
				ends := m.edges[id]
				m.delE(t, id)
				m.sizes(t)
				m.addE(t, id, ends[1], ends[0])
			}
			m.delE(t, gone+1)
			next := (gone+verts/2)%verts + 1
			if next == gone+1 {
				continue
			}
			if m.g.Trees() != 1 {
				t.Fatalf("Trees = %d", m.g.Trees())
			}
			m.delE(t, next)
			if m.g.Trees() != 2 {
				t.Fatalf("Trees = %d", m.g.Trees())
			}
			m.sizes(t)
		}
	}
}
