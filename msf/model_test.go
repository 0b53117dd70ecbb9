package msf_test

import (
	"cmp"
	"maps"
	"math/rand/v2"
	"slices"
	"testing"

	"skein/api"
	"skein/msf"
	"skein/plain"
)

// model is what a graph has to tell: which vertices there are, and which edges.
type model struct {
	g     *msf.Graph
	verts map[int]bool
	edges map[int]api.Edge
	fails map[api.Errno]int
	swaps map[string]int
}

func newModel(seeds ...int) *model {
	return &model{g: msf.New(seeds...), verts: map[int]bool{}, edges: map[int]api.Edge{}, fails: map[api.Errno]int{}, swaps: map[string]int{}}
}

func order(a, b api.Edge) int { return cmp.Or(cmp.Compare(a.W, b.W), cmp.Compare(a.Id, b.Id)) }

// forest are the edges of the forest: each by rising (W, Id) whose ends those ahead of it don't join.
func (m *model) forest() map[int]api.Edge {
	in := map[int]int{} // by a vertex's id, one that stands for its tree
	for v := range m.verts {
		in[v] = v
	}
	out := map[int]api.Edge{}
	for _, e := range slices.SortedFunc(maps.Values(m.edges), order) {
		from, to := in[e.U], in[e.V]
		if from == to {
			continue
		}
		out[e.Id] = e
		for v := range in {
			if in[v] == from {
				in[v] = to
			}
		}
	}
	return out
}

// paths are what is told of the paths from a vertex, by the vertices at which they end, found by going from one to the next.
func paths(forest map[int]api.Edge, u int) map[int]api.Agg {
	at := map[int][]api.Edge{}
	for _, e := range forest {
		at[e.U] = append(at[e.U], e)
		at[e.V] = append(at[e.V], e)
	}
	out := map[int]api.Agg{u: {}}
	for next := []int{u}; len(next) > 0; next = next[1:] {
		from := out[next[0]]
		for _, e := range at[next[0]] {
			v := e.U + e.V - next[0]
			if _, known := out[v]; !known {
				out[v] = api.Agg{Max: slices.MaxFunc([]api.Edge{from.Max, e}, order), Sum: from.Sum + complex(float64(e.W), 1)}
				next = append(next, v)
			}
		}
	}
	return out
}

type fault struct {
	applies bool
	e       api.Errno
}

// end is how a call has to end: with the first of the errors that applies.
func (m *model) end(t *testing.T, what string, e api.Errno, applies ...fault) bool {
	t.Helper()
	wanted := api.OK
	for _, x := range applies {
		if x.applies {
			wanted = x.e
			break
		}
	}
	m.fails[wanted]++
	want(t, what, e, wanted)
	return wanted == api.OK
}

func isId(id int) bool { return id >= 1 && id <= api.MaxId }

// hangs tells whether an edge has a vertex as an end.
func (m *model) hangs(v int) bool {
	for _, e := range m.edges {
		if e.U == v || e.V == v {
			return true
		}
	}
	return false
}

func (m *model) addV(t *testing.T, v int) {
	t.Helper()
	if m.end(t, "AddV", m.g.AddV(v), fault{!isId(v), api.ErrArg}, fault{m.verts[v], api.ErrExists}) {
		m.verts[v] = true
	}
}

func (m *model) delV(t *testing.T, v int) {
	t.Helper()
	if m.end(t, "DelV", m.g.DelV(v), fault{!isId(v), api.ErrArg}, fault{!m.verts[v], api.ErrNotFound}, fault{m.hangs(v), api.ErrInUse}) {
		delete(m.verts, v)
	}
}

// swap holds what a change is told to do to the forest against what it does.
func (m *model) swap(t *testing.T, told msf.Swap, before map[int]api.Edge) {
	t.Helper()
	var wanted msf.Swap
	after := m.forest()
	for id := range before {
		if _, ok := after[id]; !ok {
			wanted.Out += id
		}
	}
	for id := range after {
		if _, ok := before[id]; !ok {
			wanted.In += id
		}
	}
	if told != wanted {
		t.Fatalf("Swap = %v, want %v", told, wanted)
	}
	kind := "neither"
	switch {
	case told.In != 0 && told.Out != 0:
		kind = "both"
	case told.In != 0:
		kind = "in"
	case told.Out != 0:
		kind = "out"
	}
	m.swaps[kind]++
}

func (m *model) addE(t *testing.T, e api.Edge) {
	t.Helper()
	_, there := m.edges[e.Id]
	before := m.forest()
	told, err := m.g.AddE(e)
	if m.end(t, "AddE", err,
		fault{!isId(e.Id) || !isId(e.U) || !isId(e.V), api.ErrArg},
		fault{e.W < 0 || e.W > api.MaxWeight, api.ErrWeight},
		fault{there, api.ErrExists},
		fault{!m.verts[e.U] || !m.verts[e.V], api.ErrNotFound}) {
		m.edges[e.Id] = e
		m.swap(t, told, before)
	} else if told != (msf.Swap{}) {
		t.Fatalf("AddE = %v beside an error", told)
	}
}

func (m *model) delE(t *testing.T, id int) {
	t.Helper()
	_, there := m.edges[id]
	before := m.forest()
	told, err := m.g.DelE(id)
	if m.end(t, "DelE", err, fault{!isId(id), api.ErrArg}, fault{!there, api.ErrUnder}) {
		delete(m.edges, id)
		m.swap(t, told, before)
	} else if told != (msf.Swap{}) {
		t.Fatalf("DelE = %v beside an error", told)
	}
}

// path holds what is told of a path against the model.
func (m *model) path(t *testing.T, u, v int, paths map[int]api.Agg) {
	t.Helper()
	path, ok := paths[v]
	joined, e := m.g.Joined(u, v)
	told, err := m.g.Along(u, v)
	switch {
	case !m.verts[u] || !m.verts[v]:
		got(t, "Joined", joined, e, false, api.ErrNotFound)
		got(t, "Along", told, err, api.Agg{}, api.ErrNotFound)
	case !ok:
		got(t, "Joined", joined, e, false, api.OK)
		got(t, "Along", told, err, api.Agg{}, api.ErrNoPath)
	default:
		got(t, "Joined", joined, e, true, api.OK)
		got(t, "Along", told, err, path, api.OK)
	}
}

// whole holds what is told of the whole forest against the model.
func (m *model) whole(t *testing.T) map[int]api.Edge {
	t.Helper()
	wanted, weight := m.forest(), int64(0)
	for _, e := range wanted {
		weight += e.W
	}
	forest(t, m.g, weight, slices.Sorted(maps.Keys(wanted))...)
	size(t, m.g, len(m.verts), len(m.edges))
	return wanted
}

// all holds everything that is told against the model, of ids up to one.
func (m *model) all(t *testing.T, up int) {
	t.Helper()
	forest := m.whole(t)
	for u := range up + 2 {
		paths := paths(forest, u)
		for v := range up + 2 {
			m.path(t, u, v, paths)
		}
	}
	for id := range 2*up + 2 {
		if e, there := m.edges[id]; there {
			edge(t, m.g, e)
		} else {
			noEdge(t, m.g, id)
		}
	}
}

func (m *model) call(t *testing.T, r *rand.Rand, up int) {
	t.Helper()
	id := func() int {
		if r.IntN(40) == 0 {
			return noIds[r.IntN(len(noIds))]
		}
		return 1 + r.IntN(up)
	}
	weight := []int64{0, 1, 2, int64(r.IntN(9)), r.Int64N(api.MaxWeight), api.MaxWeight}[r.IntN(6)]
	if r.IntN(40) == 0 {
		weight = noWeights[r.IntN(len(noWeights))]
	}
	switch r.IntN(12) {
	case 0, 1:
		m.addV(t, id())
	case 2:
		m.delV(t, id())
	case 3, 4, 5, 6, 7:
		m.addE(t, api.Edge{Id: id() + r.IntN(2)*up, U: id(), V: id(), W: weight})
	default:
		m.delE(t, id()+r.IntN(2)*up)
	}
}

// manySeeds is what chance may say.
func manySeeds() map[string][]int {
	r := rand.New(rand.NewPCG(19, 0))
	seeds := map[string][]int{"none": nil, "nought": {0}, "two": {3, -3}}
	for i := range 100 {
		seeds["rising"] = append(seeds["rising"], i)
		seeds["falling"] = append(seeds["falling"], -i)
		seeds["any"] = append(seeds["any"], int(r.Uint64()))
	}
	return seeds
}

// P19.1: any calls in any order, whatever chance says.
func TestAnyCalls(t *testing.T) {
	fails, swaps := map[api.Errno]int{}, map[string]int{}
	for _, seeds := range manySeeds() {
		for run := range uint64(8) {
			r := rand.New(rand.NewPCG(run, 19))
			m := newModel(seeds...)
			m.fails, m.swaps = fails, swaps
			up := []int{3, 8, 16}[run%3]
			for i := range 400 {
				m.call(t, r, up)
				if up < 10 || i%10 == 0 {
					m.all(t, up)
				} else {
					m.whole(t)
				}
			}
			m.all(t, up)
		}
	}
	for _, e := range []api.Errno{api.OK, api.ErrArg, api.ErrExists, api.ErrNotFound, api.ErrInUse, api.ErrWeight, api.ErrUnder} {
		if fails[e] < 100 {
			t.Errorf("%d came up %d times", e, fails[e])
		}
	}
	for _, kind := range []string{"both", "in", "out", "neither"} {
		if swaps[kind] < 100 {
			t.Errorf("%s came up %d times", kind, swaps[kind])
		}
	}
}

// grown is a model of vertices and of edges between those that are no farther from one another than told.
func grown(t *testing.T, r *rand.Rand, verts, edges, far int) *model {
	t.Helper()
	m := newModel(r.IntN(9))
	for v := range verts {
		m.addV(t, v+1)
	}
	for id := range edges {
		m.addE(t, anyEdge(r, id+1, verts, far))
	}
	return m
}

func anyEdge(r *rand.Rand, id, verts, far int) api.Edge {
	u := r.IntN(verts)
	ends := [2]int{u + 1, (u+r.IntN(far+1))%verts + 1}
	i := r.IntN(2)
	return api.Edge{Id: id, U: ends[i], V: ends[1-i], W: int64(r.IntN(60))}
}

// P19.1: great graphs, whose edges come and go: what is told is the forest of layer 6.
func TestGreatGraphs(t *testing.T) {
	const verts, edges = 120, 220
	for _, far := range []int{2, 10, verts} {
		r := rand.New(rand.NewPCG(19, uint64(far)))
		m := grown(t, r, verts, edges, far)
		m.all(t, verts)
		for range 400 {
			id := 1 + r.IntN(edges)
			m.delE(t, id)
			m.addE(t, anyEdge(r, id, verts, far))
		}
		m.all(t, verts)
		m.asLayer6(t)
		for id := range edges {
			m.delE(t, id+1)
		}
		m.all(t, verts)
	}
}

// asLayer6 holds what is told against what going through the whole net finds.
func (m *model) asLayer6(t *testing.T) {
	t.Helper()
	net := api.Net{
		Verts: slices.Sorted(maps.Keys(m.verts)),
		Edges: slices.SortedFunc(maps.Values(m.edges), func(a, b api.Edge) int { return a.Id - b.Id }),
	}
	ids, e := plain.Forest(net)
	want(t, "plain.Forest", e, api.OK)
	weight, e := plain.Weight(net)
	want(t, "plain.Weight", e, api.OK)
	forest(t, m.g, weight, ids...)
	for i, u := range net.Verts {
		v := net.Verts[(i*7+1)%len(net.Verts)]
		joined, e := plain.Joined(net, u, v)
		told, err := m.g.Joined(u, v)
		got(t, "Joined", told, err, joined, e)
		path, e := plain.Along(net, u, v)
		along, err := m.g.Along(u, v)
		got(t, "Along", along, err, path, e)
	}
}

// P19.2: an edge that comes takes the place of the greatest edge on the way round that it closes, if it is smaller, and of none else.
func TestComes(t *testing.T) {
	for seed := range uint64(6) {
		r := rand.New(rand.NewPCG(seed, 192))
		const verts, far = 14, 5
		m := grown(t, r, verts, 18, far)
		for i := range 400 {
			e := anyEdge(r, []int{900, 3000}[i%2], verts, verts)
			m.delE(t, 3)
			m.addE(t, anyEdge(r, 3, verts, far))
			before := m.g.Forest()
			path, none := m.g.Along(e.U, e.V)
			wanted := msf.Swap{In: e.Id, Out: path.Max.Id}
			if none == api.OK && order(e, path.Max) > 0 {
				wanted = msf.Swap{}
			}
			swap, err := m.g.AddE(e)
			got(t, "AddE", swap, err, wanted, api.OK)
			if wanted.In != 0 {
				before = append(before, e.Id)
			}
			before = slices.DeleteFunc(before, func(id int) bool { return id == wanted.Out })
			slices.Sort(before)
			if told := m.g.Forest(); !slices.Equal(told, before) {
				t.Fatalf("Forest = %v, want %v", told, before)
			}
			swap, err = m.g.DelE(e.Id) // what came and went leaves no trace
			got(t, "DelE", swap, err, msf.Swap{In: wanted.Out, Out: wanted.In}, api.OK)
			m.whole(t)
		}
	}
}

// P19.2: an edge that goes leaves its place to the least edge that joins the two parts.
func TestGoes(t *testing.T) {
	for seed := range uint64(6) {
		r := rand.New(rand.NewPCG(seed, 193))
		const verts, far = 14, 6
		m := grown(t, r, verts, 34, far)
		for range 100 {
			for _, id := range m.g.Forest() {
				gone := m.edges[id]
				rest := m.forest()
				delete(rest, id)
				part := paths(rest, gone.U)
				least := api.Edge{}
				for _, e := range m.edges {
					_, one := part[e.U]
					_, other := part[e.V]
					if e.Id != id && one != other && (least.Id == 0 || order(e, least) < 0) {
						least = e
					}
				}
				swap, err := m.g.DelE(id)
				got(t, "DelE", swap, err, msf.Swap{In: least.Id, Out: id}, api.OK)
				swap, err = m.g.AddE(gone) // and it takes its place again
				got(t, "AddE", swap, err, msf.Swap{In: id, Out: least.Id}, api.OK)
				m.whole(t)
			}
			id := 1 + r.IntN(34)
			m.delE(t, id)
			m.addE(t, anyEdge(r, id, verts, far))
		}
	}
}
