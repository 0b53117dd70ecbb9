package plain_test

import (
	"math"
	"math/rand/v2"
	"reflect"
	"slices"
	"strings"
	"testing"

	"skein/api"
	"skein/graph"
	"skein/plain"
)

// example is the chapter's net.
func example() api.Net {
	return api.Net{
		Verts: []int{1, 2, 3, 4},
		Edges: []api.Edge{{Id: 1, U: 1, V: 2, W: 5}, {Id: 2, U: 2, V: 3, W: 4}, {Id: 3, U: 1, V: 3, W: 4}},
	}
}

// line is a path of size vertices, all its edges of one weight.
func line(size int, w int64) api.Net {
	n := api.Net{Verts: []int{1}}
	for v := 2; v <= size; v++ {
		n.Verts = append(n.Verts, v)
		n.Edges = append(n.Edges, api.Edge{Id: v, U: v, V: v - 1, W: w})
	}
	return n
}

// biggest is a net with as much as one may have.
func biggest() api.Net {
	n := line(api.MaxVerts, 1)
	n.Edges = append(n.Edges, api.Edge{Id: api.MaxId, U: 1, V: api.MaxVerts})
	return n
}

func copyNet(n api.Net) api.Net {
	return api.Net{Verts: slices.Clone(n.Verts), Edges: slices.Clone(n.Edges)}
}

func wrongNets() map[string]api.Net {
	many := line(api.MaxVerts, 1)
	many.Verts = append(many.Verts, api.MaxVerts+1)
	crowd := biggest()
	crowd.Edges = slices.Insert(crowd.Edges, 0, api.Edge{Id: 1, U: 1, V: 1})
	loop := func(e api.Edge) api.Net { return api.Net{Verts: []int{3, 5}, Edges: []api.Edge{e}} }
	return map[string]api.Net{
		"vertex 0":              {Verts: []int{0, 1}},
		"vertex -1":             {Verts: []int{-1, 1}},
		"vertex too great":      {Verts: []int{1, api.MaxId + 1}},
		"vertex of 2^32+1":      {Verts: []int{1<<32 + 1}},
		"vertex least":          {Verts: []int{math.MinInt}},
		"vertices falling":      {Verts: []int{2, 1}},
		"vertex twice":          {Verts: []int{1, 2, 2}},
		"vertices too many":     many,
		"edge 0":                loop(api.Edge{U: 3, V: 5}),
		"edge -1":               loop(api.Edge{Id: -1, U: 3, V: 5}),
		"edge too great":        loop(api.Edge{Id: api.MaxId + 1, U: 3, V: 5}),
		"edges falling":         {Verts: []int{1}, Edges: []api.Edge{{Id: 2, U: 1, V: 1}, {Id: 1, U: 1, V: 1}}},
		"edge twice":            {Verts: []int{1}, Edges: []api.Edge{{Id: 1, U: 1, V: 1}, {Id: 1, U: 1, V: 1}}},
		"U missing":             loop(api.Edge{Id: 1, U: 4, V: 5}),
		"V missing":             loop(api.Edge{Id: 1, U: 3, V: 4}),
		"U above all":           loop(api.Edge{Id: 1, U: 6, V: 5}),
		"V below all":           loop(api.Edge{Id: 1, U: 3, V: 0}),
		"weight below 0":        loop(api.Edge{Id: 1, U: 3, V: 5, W: -1}),
		"weight least":          loop(api.Edge{Id: 1, U: 3, V: 5, W: math.MinInt64}),
		"weight too great":      loop(api.Edge{Id: 1, U: 3, V: 5, W: api.MaxWeight + 1}),
		"weight greatest":       loop(api.Edge{Id: 1, U: 3, V: 5, W: math.MaxInt64}),
		"edges too many":        crowd,
		"edges of no vertices":  {Edges: []api.Edge{{Id: 1, U: 1, V: 1}}},
		"last edge wrong alone": {Verts: []int{1}, Edges: []api.Edge{{Id: 1, U: 1, V: 1}, {Id: 2, U: 1, V: 2}}},
	}
}

// randomNet: few vertices and few weights, so that ways round and edges alike are many.
func randomNet(r *rand.Rand) api.Net {
	var n api.Net
	id := 0
	for range 1 + r.IntN(9) {
		id += 1 + r.IntN(3)
		n.Verts = append(n.Verts, id)
	}
	id = 0
	for range r.IntN(14) {
		id += 1 + r.IntN(3)
		n.Edges = append(n.Edges, api.Edge{
			Id: id, U: n.Verts[r.IntN(len(n.Verts))], V: n.Verts[r.IntN(len(n.Verts))], W: int64(r.IntN(4)),
		})
	}
	return n
}

func above(a, b api.Edge) bool { return a.W > b.W || a.W == b.W && a.Id > b.Id }

// reach are the vertices that edges lead to, as found by looking at every edge until none leads on.
func reach(edges []api.Edge, u int) []int {
	out := []int{u}
	for on := true; on; {
		on = false
		for _, e := range edges {
			for _, x := range [][2]int{{e.U, e.V}, {e.V, e.U}} {
				if slices.Contains(out, x[0]) && !slices.Contains(out, x[1]) {
					out, on = append(out, x[1]), true
				}
			}
		}
	}
	slices.Sort(out)
	return out
}

// leastForest: by rising (W, Id), each edge whose ends those taken don't join.
func leastForest(n api.Net) []api.Edge {
	left, taken := slices.Clone(n.Edges), []api.Edge(nil)
	for len(left) > 0 {
		least := 0
		for i := range left {
			if above(left[least], left[i]) {
				least = i
			}
		}
		if e := left[least]; !slices.Contains(reach(taken, e.U), e.V) {
			taken = append(taken, e)
		}
		left = slices.Delete(left, least, least+1)
	}
	slices.SortFunc(taken, func(a, b api.Edge) int { return a.Id - b.Id })
	return taken
}

// wayTo is the way from u to v that takes no edge twice.
func wayTo(edges []api.Edge, u, v int) ([]api.Edge, bool) {
	if u == v {
		return nil, true
	}
	for i, e := range edges {
		if e.U != u && e.V != u {
			continue
		}
		rest := slices.Concat(edges[:i], edges[i+1:])
		if way, ok := wayTo(rest, e.U+e.V-u, v); ok {
			return append([]api.Edge{e}, way...), true
		}
	}
	return nil, false
}

func idsOf(edges []api.Edge) []int {
	var out []int
	for _, e := range edges {
		out = append(out, e.Id)
	}
	return out
}

func sumOf(edges []api.Edge) int64 {
	var sum int64
	for _, e := range edges {
		sum += e.W
	}
	return sum
}

func greatest(edges []api.Edge) api.Edge {
	var out api.Edge
	for i, e := range edges {
		if i == 0 || above(e, out) {
			out = e
		}
	}
	return out
}

// nets: many, of all shapes.
func nets(t *testing.T, ask func(t *testing.T, n api.Net)) {
	t.Helper()
	r := rand.New(rand.NewPCG(6, 6))
	for _, n := range []api.Net{{}, example(), line(1, 0), line(9, 0), line(9, api.MaxWeight)} {
		ask(t, n)
	}
	for range 300 {
		ask(t, randomNet(r))
	}
}

// pairs: each two of the net's vertices.
func pairs(n api.Net, ask func(u, v int)) {
	for _, u := range n.Verts {
		for _, v := range n.Verts {
			ask(u, v)
		}
	}
}

// P6.1

func TestExample(t *testing.T) {
	n := example()
	if e := plain.Check(n); e != api.OK {
		t.Errorf("Check = %d", e)
	}
	if ids, e := plain.Forest(n); !slices.Equal(ids, []int{2, 3}) || e != api.OK {
		t.Errorf("Forest = %v, %d", ids, e)
	}
	if w, e := plain.Weight(n); w != 8 || e != api.OK {
		t.Errorf("Weight = %d, %d", w, e)
	}
	if ids, e := plain.Path(n, 1, 2); !slices.Equal(ids, []int{3, 2}) || e != api.OK {
		t.Errorf("Path = %v, %d", ids, e)
	}
	if a, e := plain.Along(n, 1, 2); a != (api.Agg{Max: n.Edges[2], Sum: 8 + 2i}) || e != api.OK {
		t.Errorf("Along = %v, %d", a, e)
	}
	if s, e := plain.Span(n, 1); s != 8 || e != api.OK {
		t.Errorf("Span = %d, %d", s, e)
	}
	if s, e := plain.Span(n, 4); s != 0 || e != api.OK {
		t.Errorf("Span(4) = %d, %d", s, e)
	}
	if a, e := plain.Along(n, 1, 4); a != (api.Agg{}) || e != api.ErrNoPath {
		t.Errorf("Along(1, 4) = %v, %d", a, e)
	}
	if ids, e := plain.Path(n, 4, 1); len(ids) != 0 || e != api.ErrNoPath {
		t.Errorf("Path(4, 1) = %v, %d", ids, e)
	}
	if l, e := plain.Trees(n); !reflect.DeepEqual(l, [][]int{{1, 2, 3}, {4}}) || e != api.OK {
		t.Errorf("Trees = %v, %d", l, e)
	}
}

func TestCheck(t *testing.T) {
	for _, n := range []api.Net{
		{}, {Verts: []int{}, Edges: []api.Edge{}}, {Verts: []int{1, api.MaxId}},
		{Verts: []int{7}, Edges: []api.Edge{{Id: 1, U: 7, V: 7}, {Id: api.MaxId, U: 7, V: 7, W: api.MaxWeight}}},
		biggest(),
	} {
		if e := plain.Check(n); e != api.OK {
			t.Errorf("Check = %d of %d vertices, %d edges", e, len(n.Verts), len(n.Edges))
		}
	}
	for name, n := range wrongNets() {
		if e := plain.Check(n); e != api.ErrNet {
			t.Errorf("%s: Check = %d", name, e)
		}
	}
}

// errorsOf: what each function answers of two vertices; with an error its other result is zero.
func errorsOf(t *testing.T, n api.Net, u, v int) (whole, one, two []api.Errno) {
	t.Helper()
	joined, joinedE := plain.Joined(n, u, v)
	trees, treesE := plain.Trees(n)
	forest, forestE := plain.Forest(n)
	weight, weightE := plain.Weight(n)
	path, pathE := plain.Path(n, u, v)
	along, alongE := plain.Along(n, u, v)
	span, spanE := plain.Span(n, u)
	for i, bad := range []bool{
		joinedE != api.OK && joined, treesE != api.OK && len(trees) > 0, forestE != api.OK && len(forest) > 0,
		weightE != api.OK && weight != 0, pathE != api.OK && len(path) > 0, alongE != api.OK && along != api.Agg{}, spanE != api.OK && span != 0,
	} {
		if bad {
			t.Errorf("call %d: a result beside an error", i)
		}
	}
	return []api.Errno{treesE, forestE, weightE}, []api.Errno{spanE}, []api.Errno{joinedE, pathE, alongE}
}

func all(es []api.Errno, want api.Errno) bool {
	return !slices.ContainsFunc(es, func(e api.Errno) bool { return e != want })
}

func TestErrNet(t *testing.T) {
	for name, n := range wrongNets() {
		// A vertex that isn't there is looked for only in a right net.
		for _, v := range []int{1, 3, 99, 0, math.MinInt} {
			whole, one, two := errorsOf(t, n, v, v)
			if !all(slices.Concat(whole, one, two), api.ErrNet) {
				t.Errorf("%s: %v, %v, %v", name, whole, one, two)
			}
		}
	}
}

func TestErrNotFound(t *testing.T) {
	n := api.Net{Verts: []int{2, 4, 6}, Edges: []api.Edge{{Id: 1, U: 2, V: 4}}}
	for _, v := range []int{0, 1, 3, 5, 7, -2, 1<<32 + 2, math.MaxInt, math.MinInt} {
		if whole, one, two := errorsOf(t, n, v, 2); !all(whole, api.OK) || !all(slices.Concat(one, two), api.ErrNotFound) {
			t.Errorf("(%d, 2): %v, %v, %v", v, whole, one, two)
		}
		if _, one, two := errorsOf(t, n, 2, v); !all(one, api.OK) || !all(two, api.ErrNotFound) {
			t.Errorf("(2, %d): %v, %v", v, one, two)
		}
		if _, one, two := errorsOf(t, api.Net{}, v, v); !all(slices.Concat(one, two), api.ErrNotFound) {
			t.Errorf("of nothing (%d, %d): %v, %v", v, v, one, two)
		}
	}
}

func TestJoinedAndTrees(t *testing.T) {
	nets(t, func(t *testing.T, n api.Net) {
		var want [][]int
		pairs(n, func(u, v int) {
			to := reach(n.Edges, u)
			if yes, e := plain.Joined(n, u, v); yes != slices.Contains(to, v) || e != api.OK {
				t.Fatalf("%v: Joined(%d, %d) = %v, %d", n, u, v, yes, e)
			}
			if u == v && to[0] == u {
				want = append(want, to)
			}
		})
		if got, e := plain.Trees(n); len(got) != len(want) || len(got) > 0 && !reflect.DeepEqual(got, want) || e != api.OK {
			t.Fatalf("%v: Trees = %v, %d, want %v", n, got, e, want)
		}
	})
}

func TestForestAndWeight(t *testing.T) {
	nets(t, func(t *testing.T, n api.Net) {
		want := leastForest(n)
		if got, e := plain.Forest(n); !slices.Equal(got, idsOf(want)) || e != api.OK {
			t.Fatalf("%v: Forest = %v, %d, want %v", n, got, e, want)
		}
		if got, e := plain.Weight(n); got != sumOf(want) || e != api.OK {
			t.Fatalf("%v: Weight = %d, %d, want %d", n, got, e, sumOf(want))
		}
	})
}

func TestPathAndAlong(t *testing.T) {
	nets(t, func(t *testing.T, n api.Net) {
		forest := leastForest(n)
		pairs(n, func(u, v int) {
			way, ok := wayTo(forest, u, v)
			want, e := api.Agg{Max: greatest(way), Sum: complex(float64(sumOf(way)), float64(len(way)))}, api.OK
			if !ok {
				want, e = api.Agg{}, api.ErrNoPath
			}
			if got, err := plain.Path(n, u, v); !slices.Equal(got, idsOf(way)) || err != e {
				t.Fatalf("%v: Path(%d, %d) = %v, %d, want %v, %d", n, u, v, got, err, way, e)
			}
			if got, err := plain.Along(n, u, v); got != want || err != e {
				t.Fatalf("%v: Along(%d, %d) = %v, %d, want %v, %d", n, u, v, got, err, want, e)
			}
		})
	})
}

func TestSpan(t *testing.T) {
	nets(t, func(t *testing.T, n api.Net) {
		forest := leastForest(n)
		far := map[int]int64{}
		for _, u := range n.Verts {
			to := reach(n.Edges, u)
			for _, v := range to {
				way, _ := wayTo(forest, u, v)
				far[to[0]] = max(far[to[0]], sumOf(way))
			}
		}
		for _, u := range n.Verts {
			want := far[reach(n.Edges, u)[0]]
			if got, e := plain.Span(n, u); got != want || e != api.OK {
				t.Fatalf("%v: Span(%d) = %d, %d, want %d", n, u, got, e, want)
			}
		}
	})
}

func TestOverflow(t *testing.T) {
	// 64 edges of the greatest weight are just MaxSum.
	edges := api.MaxSum / api.MaxWeight
	n := line(edges+2, api.MaxWeight)
	last := edges + 2
	if s, e := plain.Along(n, 1, last-1); s.Sum != complex(api.MaxSum, float64(edges)) || e != api.OK {
		t.Errorf("Along = %v, %d", s, e)
	}
	if _, e := plain.Along(n, 1, last); e != api.ErrOverflow {
		t.Errorf("Along = %d", e)
	}
	if ids, e := plain.Path(n, 1, last); len(ids) != edges+1 || e != api.OK {
		t.Errorf("Path = %v, %d", ids, e)
	}
	for _, u := range []int{1, 9, last} {
		if s, e := plain.Span(n, u); s != 0 || e != api.ErrOverflow {
			t.Errorf("Span(%d) = %d, %d", u, s, e)
		}
	}
	if w, e := plain.Weight(n); w != 0 || e != api.ErrOverflow {
		t.Errorf("Weight = %d, %d", w, e)
	}
	n.Edges[0].W = 0
	if w, e := plain.Weight(n); w != api.MaxSum || e != api.OK {
		t.Errorf("Weight = %d, %d", w, e)
	}
	if s, e := plain.Span(n, 3); s != api.MaxSum || e != api.OK {
		t.Errorf("Span = %d, %d", s, e)
	}
	n.Edges[0].W = 1
	if _, e := plain.Weight(n); e != api.ErrOverflow {
		t.Errorf("Weight one above = %d", e)
	}
	if _, e := plain.Span(n, 3); e != api.ErrOverflow {
		t.Errorf("Span one above = %d", e)
	}
	if _, e := plain.Along(n, 1, last); e != api.ErrOverflow {
		t.Errorf("Along one above = %d", e)
	}
}

func TestBiggest(t *testing.T) {
	n := biggest()
	if w, e := plain.Weight(n); w != api.MaxVerts-2 || e != api.OK {
		t.Errorf("Weight = %d, %d", w, e)
	}
	// Of the ring the edge with the greatest id among those of weight 1 is left out.
	if ids, e := plain.Path(n, api.MaxVerts, api.MaxVerts-1); len(ids) != api.MaxVerts-1 || ids[0] != api.MaxId || e != api.OK {
		t.Errorf("Path: %d edges, %d", len(ids), e)
	}
	far := line(api.MaxVerts, api.MaxWeight)
	if _, e := plain.Span(far, 1); e != api.ErrOverflow {
		t.Errorf("Span = %d", e)
	}
	if _, e := plain.Along(far, 1, api.MaxVerts); e != api.ErrOverflow {
		t.Errorf("Along = %d", e)
	}
}

func made(t *testing.T, n api.Net) *graph.Graph {
	t.Helper()
	g := graph.New()
	for _, v := range n.Verts {
		do(t, g, api.Write{Kind: api.WAddV, Id: v})
	}
	for _, e := range n.Edges {
		do(t, g, api.Write{Kind: api.WAddE, Id: e.Id, U: e.U, V: e.V, W: e.W})
	}
	return g
}

func do(t *testing.T, g *graph.Graph, w api.Write) {
	t.Helper()
	if e := g.Do(w); e != api.OK {
		t.Fatalf("Do(%+v) = %d", w, e)
	}
}

func same(a, b api.Answer) bool {
	return a.Err == b.Err && a.Yes == b.Yes && a.Int == b.Int && a.C == b.C && a.Edge == b.Edge &&
		slices.Equal(a.Ids, b.Ids) && slices.Equal(a.Verts, b.Verts) && slices.Equal(a.Edges, b.Edges) &&
		a.Val.Kind == b.Val.Kind && a.Val.Int == b.Val.Int && a.Val.C == b.Val.C && string(a.Val.Text) == string(b.Val.Text)
}

func asked(t *testing.T, g *graph.Graph, q api.Query, want api.Answer) {
	t.Helper()
	if got := plain.Ask(g, q); !same(got, want) {
		t.Errorf("Ask(%+v) = %+v, want %+v", q, got, want)
	}
}

func TestAsk(t *testing.T) {
	n := example()
	g := made(t, n)
	of, val := api.Ref{Edge: true, Id: 2}, api.Value{Kind: api.VText, Text: []byte("xy")}
	do(t, g, api.Write{Kind: api.WProp, Of: of, Name: "a", Val: val})
	for _, x := range []struct {
		q    api.Query
		want api.Answer
	}{
		{api.Query{Kind: api.QHasV, U: 4}, api.Answer{Yes: true}},
		{api.Query{Kind: api.QHasV, U: 5}, api.Answer{}},
		{api.Query{Kind: api.QEdge, U: 3}, api.Answer{Edge: n.Edges[2]}},
		{api.Query{Kind: api.QEdge, U: 4}, api.Answer{Err: api.ErrNotFound}},
		{api.Query{Kind: api.QProp, Of: of, Name: "a"}, api.Answer{Val: val}},
		{api.Query{Kind: api.QProp, Of: of, Name: "b"}, api.Answer{Err: api.ErrNotFound}},
		{api.Query{Kind: api.QProp, Of: api.Ref{Id: 2}, Name: "a"}, api.Answer{Err: api.ErrNotFound}},
		{api.Query{Kind: api.QProp, Of: api.Ref{Id: 9}, Name: "a"}, api.Answer{Err: api.ErrNotFound}},
		{api.Query{Kind: api.QAround, U: 1}, api.Answer{Ids: []int{1, 3}}},
		{api.Query{Kind: api.QAround, U: 4}, api.Answer{}},
		{api.Query{Kind: api.QAround, U: 5}, api.Answer{Err: api.ErrNotFound}},
		{api.Query{Kind: api.QJoined, U: 1, V: 2}, api.Answer{Yes: true}},
		{api.Query{Kind: api.QJoined, U: 1, V: 4}, api.Answer{}},
		{api.Query{Kind: api.QJoined, U: 1, V: 5}, api.Answer{Err: api.ErrNotFound}},
		{api.Query{Kind: api.QJoined, U: 5, V: 1}, api.Answer{Err: api.ErrNotFound}},
		{api.Query{Kind: api.QWeight}, api.Answer{Int: 8}},
		{api.Query{Kind: api.QForest}, api.Answer{Ids: []int{2, 3}}},
		{api.Query{Kind: api.QPathMax, U: 1, V: 2}, api.Answer{Edge: n.Edges[2]}},
		{api.Query{Kind: api.QPathMax, U: 1, V: 1}, api.Answer{}},
		{api.Query{Kind: api.QPathMax, U: 1, V: 4}, api.Answer{Err: api.ErrNoPath}},
		{api.Query{Kind: api.QPathMax, U: 5, V: 4}, api.Answer{Err: api.ErrNotFound}},
		{api.Query{Kind: api.QPathSum, U: 1, V: 2}, api.Answer{C: 8 + 2i}},
		{api.Query{Kind: api.QPathSum, U: 4, V: 4}, api.Answer{}},
		{api.Query{Kind: api.QPathSum, U: 4, V: 1}, api.Answer{Err: api.ErrNoPath}},
		{api.Query{Kind: api.QPathSum, U: 4, V: 5}, api.Answer{Err: api.ErrNotFound}},
		{api.Query{Kind: api.QSpan, U: 3}, api.Answer{Int: 8}},
		{api.Query{Kind: api.QSpan, U: 5}, api.Answer{Err: api.ErrNotFound}},
		{api.Query{Kind: api.QNet}, api.Answer{Verts: n.Verts, Edges: n.Edges}},
	} {
		asked(t, g, x.q, x.want)
	}
}

func TestAskOfNothing(t *testing.T) {
	g := graph.New()
	for _, kind := range []int{api.QWeight, api.QForest, api.QNet} {
		asked(t, g, api.Query{Kind: kind}, api.Answer{})
	}
	asked(t, g, api.Query{Kind: api.QHasV, U: 1}, api.Answer{})
	for _, kind := range []int{api.QEdge, api.QAround, api.QJoined, api.QPathMax, api.QPathSum, api.QSpan} {
		asked(t, g, api.Query{Kind: kind, U: 1, V: 1}, api.Answer{Err: api.ErrNotFound})
	}
	asked(t, g, api.Query{Kind: api.QProp, Of: api.Ref{Id: 1}, Name: "a"}, api.Answer{Err: api.ErrNotFound})
}

func TestAskWrong(t *testing.T) {
	g := made(t, example())
	wrong := api.Answer{Err: api.ErrArg}
	for _, kind := range []int{0, 12, -1, 258, math.MaxInt, math.MinInt} {
		asked(t, g, api.Query{Kind: kind, U: 1, V: 1, Of: api.Ref{Id: 1}, Name: "a"}, wrong)
	}
	for _, id := range []int{0, -1, api.MaxId + 1, 1<<32 + 1, math.MaxInt, math.MinInt} {
		for _, kind := range []int{api.QHasV, api.QEdge, api.QAround, api.QJoined, api.QPathMax, api.QPathSum, api.QSpan} {
			asked(t, g, api.Query{Kind: kind, U: id, V: 1}, wrong)
		}
		for _, kind := range []int{api.QJoined, api.QPathMax, api.QPathSum} {
			asked(t, g, api.Query{Kind: kind, U: 1, V: id}, wrong)
			asked(t, g, api.Query{Kind: kind, U: 99, V: id}, wrong)
		}
		for _, of := range []api.Ref{{Id: id}, {Edge: true, Id: id}} {
			asked(t, g, api.Query{Kind: api.QProp, Of: of, Name: ""}, wrong)
		}
		// What a kind doesn't name doesn't count.
		other := api.Ref{Edge: true, Id: id}
		asked(t, g, api.Query{Kind: api.QHasV, U: 1, V: id, Of: other, Name: "NO"}, api.Answer{Yes: true})
		asked(t, g, api.Query{Kind: api.QEdge, U: 1, V: id, Of: other}, api.Answer{Edge: example().Edges[0]})
		asked(t, g, api.Query{Kind: api.QAround, U: 4, V: id, Of: other}, api.Answer{})
		asked(t, g, api.Query{Kind: api.QSpan, U: 1, V: id, Of: other}, api.Answer{Int: 8})
		asked(t, g, api.Query{Kind: api.QWeight, U: id, V: id, Of: other}, api.Answer{Int: 8})
		asked(t, g, api.Query{Kind: api.QForest, U: id, V: id, Of: other}, api.Answer{Ids: []int{2, 3}})
		asked(t, g, api.Query{Kind: api.QProp, U: id, V: id, Of: api.Ref{Id: 1}, Name: "a"}, api.Answer{Err: api.ErrNotFound})
	}
	for _, name := range []string{"", "A", "a b", "ä", strings.Repeat("a", api.MaxName+1)} {
		for _, of := range []api.Ref{{Id: 1}, {Id: 99}} {
			asked(t, g, api.Query{Kind: api.QProp, Of: of, Name: name}, api.Answer{Err: api.ErrValue})
		}
	}
}

func TestAskOverflow(t *testing.T) {
	g := made(t, line(66, api.MaxWeight))
	for _, q := range []api.Query{
		{Kind: api.QWeight}, {Kind: api.QPathMax, U: 1, V: 66}, {Kind: api.QPathSum, U: 1, V: 66}, {Kind: api.QSpan, U: 1},
	} {
		asked(t, g, q, api.Answer{Err: api.ErrOverflow})
	}
}

func TestAskAsTheFunctions(t *testing.T) {
	r := rand.New(rand.NewPCG(16, 6))
	for range 60 {
		n := randomNet(r)
		g := made(t, n)
		pairs(n, func(u, v int) {
			along, e := plain.Along(n, u, v)
			joined, _ := plain.Joined(n, u, v)
			span, _ := plain.Span(n, u)
			asked(t, g, api.Query{Kind: api.QPathMax, U: u, V: v}, api.Answer{Err: e, Edge: along.Max})
			asked(t, g, api.Query{Kind: api.QPathSum, U: u, V: v}, api.Answer{Err: e, C: along.Sum})
			asked(t, g, api.Query{Kind: api.QJoined, U: u, V: v}, api.Answer{Yes: joined})
			asked(t, g, api.Query{Kind: api.QSpan, U: u}, api.Answer{Int: span})
		})
		weight, _ := plain.Weight(n)
		forest, _ := plain.Forest(n)
		asked(t, g, api.Query{Kind: api.QWeight}, api.Answer{Int: weight})
		asked(t, g, api.Query{Kind: api.QForest}, api.Answer{Ids: forest})
		asked(t, g, api.Query{Kind: api.QNet}, api.Answer{Verts: n.Verts, Edges: n.Edges})
	}
}

// P6.2

func edgesOf(n api.Net, ids []int) []api.Edge {
	return slices.DeleteFunc(slices.Clone(n.Edges), func(e api.Edge) bool { return !slices.Contains(ids, e.Id) })
}

func TestForestIsLeast(t *testing.T) {
	nets(t, func(t *testing.T, n api.Net) {
		ids, e := plain.Forest(n)
		if e != api.OK || !slices.IsSorted(ids) {
			t.Fatalf("%v: Forest = %v, %d", n, ids, e)
		}
		forest := edgesOf(n, ids)
		if len(forest) != len(ids) {
			t.Fatalf("%v: Forest = %v: edges that the net hasn't, or one twice", n, ids)
		}
		trees := 0
		for _, u := range n.Verts {
			to := reach(n.Edges, u)
			if got := reach(forest, u); !slices.Equal(got, to) {
				t.Fatalf("%v: the forest joins %v to %d, the net %v", n, got, u, to)
			}
			if to[0] == u {
				trees++
			}
		}
		// So many edges less join all this only without a way round.
		if len(forest) != len(n.Verts)-trees {
			t.Fatalf("%v: Forest = %v has a way round", n, ids)
		}
		for _, e := range n.Edges {
			if slices.Contains(ids, e.Id) {
				continue
			}
			path, _ := plain.Path(n, e.U, e.V)
			for _, p := range edgesOf(n, path) {
				if !above(e, p) {
					t.Fatalf("%v: edge %v isn't in the forest, %v of its path is", n, e, p)
				}
			}
		}
	})
}

// P6.3

func TestPathThereAndBack(t *testing.T) {
	nets(t, func(t *testing.T, n api.Net) {
		ids, _ := plain.Forest(n)
		pairs(n, func(u, v int) {
			path, e := plain.Path(n, u, v)
			along, f := plain.Along(n, u, v)
			back, _ := plain.Path(n, v, u)
			alongBack, _ := plain.Along(n, v, u)
			yes, _ := plain.Joined(n, u, v)
			if e != f || (e == api.OK) != yes {
				t.Fatalf("%v: (%d, %d): Path's error %d, Along's %d, Joined %v", n, u, v, e, f, yes)
			}
			edges := edgesOf(n, path)
			if along.Sum != complex(float64(sumOf(edges)), float64(len(path))) || along.Max != greatest(edges) {
				t.Fatalf("%v: (%d, %d): Along %v, Path %v", n, u, v, along, path)
			}
			slices.Reverse(back)
			if !slices.Equal(path, back) || along != alongBack {
				t.Fatalf("%v: (%d, %d): %v, %v; back %v, %v", n, u, v, path, along, back, alongBack)
			}
			here := u
			for _, id := range path {
				e := edgesOf(n, []int{id})[0]
				if !slices.Contains(ids, id) || e.U != here && e.V != here {
					t.Fatalf("%v: Path(%d, %d) = %v", n, u, v, path)
				}
				here = e.U + e.V - here
			}
			if yes && here != v {
				t.Fatalf("%v: Path(%d, %d) = %v ends at %d", n, u, v, path, here)
			}
		})
	})
}

// P6.4

func TestSpanIsAPath(t *testing.T) {
	nets(t, func(t *testing.T, n api.Net) {
		trees, _ := plain.Trees(n)
		for _, tree := range trees {
			var far int64
			for _, u := range tree {
				for _, v := range tree {
					a, _ := plain.Along(n, u, v)
					far = max(far, int64(real(a.Sum)))
				}
			}
			for _, u := range tree {
				if s, e := plain.Span(n, u); s != far || e != api.OK {
					t.Fatalf("%v: Span(%d) = %d, %d, want %d", n, u, s, e, far)
				}
			}
		}
	})
}

// P6.5

// roomy: lists with room behind their length, which nobody may write to.
func roomy(n api.Net) api.Net {
	verts := append(slices.Clone(n.Verts), 77, 77, 77)
	edges := append(slices.Clone(n.Edges), api.Edge{Id: 77}, api.Edge{Id: 77})
	return api.Net{Verts: verts[:len(n.Verts)], Edges: edges[:len(n.Edges)]}
}

func room(n api.Net) ([]int, []api.Edge) {
	return slices.Clone(n.Verts[:cap(n.Verts)]), slices.Clone(n.Edges[:cap(n.Edges)])
}

func TestArgumentsAreNotChanged(t *testing.T) {
	backwards := example()
	slices.Reverse(backwards.Edges)
	for _, n := range []api.Net{example(), biggest(), backwards} {
		n = roomy(n)
		verts, edges := room(n)
		plain.Check(n)
		errorsOf(t, n, 1, 2)
		errorsOf(t, n, 99999, 1)
		v, e := room(n)
		if !slices.Equal(v, verts) || !slices.Equal(e, edges) {
			t.Errorf("changed: %v, %v", v, e)
		}
	}
}

// spoil writes over all that a list has, spare room too.
func spoil[T any](list []T, by T) {
	list = list[:cap(list)]
	for i := range list {
		list[i] = by
	}
}

func TestAnswersAreNew(t *testing.T) {
	n := roomy(example())
	want := copyNet(n)
	for range 2 {
		ids, _ := plain.Forest(n)
		spoil(ids, 9)
		ids, _ = plain.Path(n, 1, 2)
		spoil(ids, 9)
		trees, _ := plain.Trees(n)
		for i, l := range trees {
			spoil(l, 9)
			for _, other := range trees[i+1:] {
				if slices.Contains(other, 9) {
					t.Fatal("two trees share memory")
				}
			}
		}
	}
	if !slices.Equal(n.Verts, want.Verts) || !slices.Equal(n.Edges, want.Edges) {
		t.Errorf("changed: %v", n)
	}
	TestExample(t)
}

func TestAskLeavesTheGraph(t *testing.T) {
	n := example()
	g := made(t, n)
	val := api.Value{Kind: api.VText, Text: []byte("xy")}
	do(t, g, api.Write{Kind: api.WProp, Of: api.Ref{Id: 1}, Name: "a", Val: val})
	for range 2 {
		for kind := api.QHasV; kind <= api.QNet; kind++ {
			a := plain.Ask(g, api.Query{Kind: kind, U: 1, V: 2, Of: api.Ref{Id: 1}, Name: "a"})
			if a.Err != api.OK {
				t.Errorf("kind %d: %d", kind, a.Err)
			}
			spoil(a.Ids, 9)
			spoil(a.Verts, 9)
			spoil(a.Edges, api.Edge{Id: 9})
			spoil(a.Val.Text, '#')
		}
	}
	asked(t, g, api.Query{Kind: api.QNet}, api.Answer{Verts: n.Verts, Edges: n.Edges})
	asked(t, g, api.Query{Kind: api.QProp, Of: api.Ref{Id: 1}, Name: "a"}, api.Answer{Val: val})
}
