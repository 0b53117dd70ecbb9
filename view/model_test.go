package view_test

import (
	"cmp"
	"maps"
	"math"
	"math/rand/v2"
	"slices"
	"testing"

	"skein/api"
	"skein/disk"
	"skein/graph"
	"skein/keys"
	"skein/plain"
	"skein/store"
	"skein/view"
)

// someWrite is a write of few elements, now and then a wrong one.
func someWrite(r *rand.Rand, ids int) api.Write {
	id := func() int {
		if r.IntN(60) == 0 {
			return []int{0, -1, api.MaxId + 1, math.MaxInt}[r.IntN(4)]
		}
		return 1 + r.IntN(ids)
	}
	w := api.Write{Kind: []int{1, 1, 1, 2, 3, 3, 3, 4, 5, 5, 5, 5, 6}[r.IntN(13)], Id: id(), U: id(), V: id(), W: int64(r.IntN(4))}
	w.Of = api.Ref{Edge: r.IntN(2) == 0, Id: id()}
	w.Name = []string{"a", "b", "abcdefghijklmnop", "A", ""}[min(r.IntN(30)/9, 4)]
	w.Val = someValue(r)
	if r.IntN(60) == 0 {
		w.Kind = []int{0, -1, 7}[r.IntN(3)]
	}
	if r.IntN(40) == 0 {
		w.W = []int64{-1, api.MaxWeight, api.MaxWeight + 1}[r.IntN(3)]
	}
	return w
}

func someValue(r *rand.Rand) api.Value {
	switch r.IntN(20) {
	case 0:
		return api.Value{}
	case 1:
		return gaussian(0.5)
	case 2:
		return text(string(make([]byte, 60+r.IntN(2))))
	case 3, 4, 5, 6:
		return gaussian(complex(float64(r.IntN(3)), less))
	case 7, 8, 9:
		return text("xy"[:r.IntN(3)])
	}
	return number(int64(r.IntN(3)))
}

// grown is a graph that some writes have led to.
func grown(r *rand.Rand, ids, many int) *graph.Graph {
	g := graph.New()
	for range many {
		g.Do(someWrite(r, ids))
	}
	return g
}

// table is the rows in which a graph lies: by their keys what they have.
func table(t *testing.T, g *graph.Graph) map[string]string {
	t.Helper()
	out := map[string]string{}
	put := func(key []byte, e api.Errno, val []byte, f api.Errno) {
		if e != api.OK || f != api.OK {
			t.Fatalf("a row can't be written: %d, %d", e, f)
		}
		out[string(key)] = string(val)
	}
	n := g.Net()
	for _, id := range n.Verts {
		key, e := keys.Elem(vertex(id))
		put(key, e, nil, api.OK)
	}
	for _, x := range n.Edges {
		key, e := keys.Elem(edge(x.Id))
		val, f := keys.PutEnds(x)
		put(key, e, val, f)
	}
	for _, p := range g.Props() {
		key, e := keys.Prop(p.Of, p.Name)
		val, f := keys.PutValue(p.Val)
		put(key, e, val, f)
	}
	return out
}

// difference is how a graph's rows become another one's.
func difference(t *testing.T, from, to *graph.Graph) []api.Row {
	t.Helper()
	was, is := table(t, from), table(t, to)
	all := maps.Clone(was)
	maps.Copy(all, is)
	var out []api.Row
	for _, key := range slices.Sorted(maps.Keys(all)) {
		old, had := was[key]
		val, has := is[key]
		switch {
		case !has:
			out = append(out, goes(key))
		case !had || old != val:
			out = append(out, row(key, val))
		}
	}
	return out
}

// model is what a view has to tell.
type model struct {
	v       *view.View
	beneath *graph.Graph // the one that the view lies over
	was     *graph.Graph // another one with the same
	now     *graph.Graph
	refs    map[api.Ref]struct{}
	writes  []api.Write
	fails   map[api.Errno]int
}

func newModel(g *graph.Graph) *model {
	return &model{v: view.New(g), beneath: g, was: g.Clone(), now: g.Clone(), refs: map[api.Ref]struct{}{}, fails: map[api.Errno]int{}}
}

func (m *model) do(t *testing.T, w api.Write) {
	t.Helper()
	touched := m.now.Refs(w)
	wanted := m.now.Do(w)
	m.fails[wanted]++
	if e := m.v.Do(w); e != wanted {
		t.Fatalf("Do(%+v) = %d, want %d", w, e, wanted)
	}
	if wanted != api.OK {
		return
	}
	for _, r := range touched {
		m.refs[r] = struct{}{}
	}
	w.Val.C = complex(real(w.Val.C)+0, imag(w.Val.C)+0)
	m.writes = append(m.writes, w)
}

// sorted: vertices ahead of edges, by rising ids.
func sorted(refs map[api.Ref]struct{}) []api.Ref {
	kind := func(r api.Ref) int {
		if r.Edge {
			return 1
		}
		return 0
	}
	return slices.SortedFunc(maps.Keys(refs), func(a, b api.Ref) int {
		return cmp.Or(cmp.Compare(kind(a), kind(b)), cmp.Compare(a.Id, b.Id))
	})
}

// same holds what the view tells of itself against the model.
func (m *model) same(t *testing.T) {
	t.Helper()
	refs(t, m.v, sorted(m.refs)...)
	writes(t, m.v, m.writes...)
	rows(t, m.v, difference(t, m.was, m.now)...)
	for _, x := range m.v.Rows() { // P22.3
		of, _, ok := keys.Parse(x.Key)
		if _, touched := m.refs[of]; !ok || !touched {
			t.Fatalf("the row %q is of none of %v", x.Key, m.v.Refs())
		}
		if x.Gone && len(x.Val) > 0 {
			t.Fatalf("the row %q goes and has a value", x.Key)
		}
	}
	sameGraph(t, "beneath", m.beneath, m.was)
}

// ask asks about few elements, now and then about what can't be.
func (m *model) ask(t *testing.T, r *rand.Rand, ids int) {
	t.Helper()
	w := someWrite(r, ids)
	q := api.Query{Kind: 1 + r.IntN(11), U: w.U, V: w.V, Of: w.Of, Name: w.Name}
	if r.IntN(60) == 0 {
		q.Kind = []int{0, 12, -1}[r.IntN(3)]
	}
	ask(t, m.v, q, plain.Ask(m.now, q))
}

// P22.1, P22.3: any calls in any order over any graph.
func TestAnyCalls(t *testing.T) {
	fails := map[api.Errno]int{}
	for seed := range uint64(600) {
		r := rand.New(rand.NewPCG(seed, 22))
		ids := []int{2, 5, 12}[seed%3]
		m := newModel(grown(r, ids, r.IntN(80)))
		m.fails = fails
		for range r.IntN(120) {
			switch r.IntN(4) {
			case 0:
				m.ask(t, r, ids)
			case 1:
				m.same(t)
			default:
				m.do(t, someWrite(r, ids))
			}
		}
		m.same(t)
	}
	for _, e := range []api.Errno{api.OK, api.ErrArg, api.ErrExists, api.ErrNotFound, api.ErrInUse, api.ErrWeight, api.ErrValue} {
		if fails[e] < 20 {
			t.Errorf("%d came up %d times", e, fails[e])
		}
	}
}

// P22.2: changes one behind the other in a table are loaded as the graph, as it was at each time, behind a crash too.
func TestRowsAreLoaded(t *testing.T) {
	conf := api.Conf{Log: 120, Frames: 4}
	for seed := range uint64(6) {
		r := rand.New(rand.NewPCG(seed, 222))
		d := disk.New(conf.Log + 80)
		s := opened(t, d, conf)
		g := graph.New()
		states := []*graph.Graph{g}
		ids := []int{4, 15}[seed%2]
		for len(states) < 40 {
			v := view.New(g)
			next := g.Clone()
			for range r.IntN(20) {
				w := someWrite(r, ids)
				if e := v.Do(w); e != next.Do(w) {
					t.Fatalf("Do(%+v) = %d", w, e)
				}
			}
			time := int64(len(states))
			if e := s.Apply(time, v.Rows()...); e != api.OK {
				t.Fatalf("Apply = %d", e)
			}
			g = next
			states = append(states, g)
			loads(t, s, time, g)
			if r.IntN(10) == 0 {
				d.On(d.Loose()...)
				s = opened(t, d, conf)
			}
		}
		for time, g := range states {
			loads(t, s, int64(time), g)
		}
		loads(t, s, math.MaxInt64, g)
		loads(t, s, math.MinInt64, graph.New())
		if _, e := s.Sweep(20); e != api.OK {
			t.Fatalf("Sweep = %d", e)
		}
		for time, g := range states[20:] {
			loads(t, s, int64(20+time), g)
		}
	}
}

// opened is the table that lies on a disk.
func opened(t *testing.T, d *disk.Disk, conf api.Conf) *store.Store {
	t.Helper()
	s, e := store.Open(d, conf)
	if e != api.OK {
		t.Fatalf("Open = %d", e)
	}
	return s
}

// loads wants a graph of a table at a time.
func loads(t *testing.T, s *store.Store, time int64, want *graph.Graph) {
	t.Helper()
	g, e := view.Load(s, time)
	if g == nil || e != api.OK {
		t.Fatalf("Load(%d) = %v, %d", time, g, e)
	}
	sameGraph(t, "loaded", g, want)
}
