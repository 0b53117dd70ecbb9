package index_test

import (
	"math/rand/v2"
	"slices"
	"testing"

	"skein/api"
	"skein/graph"
	"skein/index"
	"skein/plain"
)

// pair is an index and the graph that it is held against.
type pair struct {
	x      *index.Index
	g      *graph.Graph
	writes map[api.Errno]int
	asks   map[api.Errno]int
}

func newPair(seeds ...int) *pair {
	return &pair{x: index.New(seeds...), g: graph.New(), writes: map[api.Errno]int{}, asks: map[api.Errno]int{}}
}

// do wants of a write what the graph says to it.
func (p *pair) do(t *testing.T, w api.Write) {
	t.Helper()
	wanted := p.g.Do(w)
	p.writes[wanted]++
	do(t, p.x, w, wanted)
}

// ask wants of a question what going through the graph finds.
func (p *pair) ask(t *testing.T, q api.Query) {
	t.Helper()
	wanted := plain.Ask(p.g, q)
	p.asks[wanted.Err]++
	ask(t, p.x, q, wanted)
}

// same wants the graph's net, forest and weight.
func (p *pair) same(t *testing.T) {
	t.Helper()
	n := p.g.Net()
	net(t, p.x, n.Verts, n.Edges...)
	p.ask(t, about(api.QWeight))
	p.ask(t, about(api.QForest))
}

// all wants all that may be asked about ways, of vertices up to one.
func (p *pair) all(t *testing.T, up int) {
	t.Helper()
	p.same(t)
	for u := range up + 2 {
		p.ask(t, about(api.QSpan, u))
		for v := range up + 2 {
			p.ask(t, about(api.QJoined, u, v))
			p.ask(t, about(api.QPathMax, u, v))
			p.ask(t, about(api.QPathSum, u, v))
		}
	}
}

// anyWrite is a write of a vertex or an edge, of ids up to one, and now and then a wrong one.
func anyWrite(r *rand.Rand, up int) api.Write {
	id := func() int {
		if r.IntN(50) == 0 {
			return noIds[r.IntN(len(noIds))]
		}
		return 1 + r.IntN(up)
	}
	w := api.Write{Kind: []int{1, 1, 2, 3, 3, 3, 3, 3, 4, 4, 4}[r.IntN(11)], Id: id(), U: id(), V: id()}
	w.W = []int64{0, 1, 2, int64(r.IntN(9)), r.Int64N(api.MaxWeight), api.MaxWeight}[r.IntN(6)]
	if r.IntN(40) == 0 {
		w.W = noWeights[r.IntN(len(noWeights))]
	}
	if w.Kind > 2 {
		w.Id += r.IntN(2) * up
	}
	return w
}

// manySeeds is what chance may say.
func manySeeds() map[string][]int {
	r := rand.New(rand.NewPCG(21, 0))
	seeds := map[string][]int{"none": nil, "nought": {0}, "two": {3, -3}}
	for i := range 100 {
		seeds["rising"] = append(seeds["rising"], i)
		seeds["falling"] = append(seeds["falling"], -i)
		seeds["any"] = append(seeds["any"], int(r.Uint64()))
	}
	return seeds
}

// P21.1: any writes and questions in any order, whatever chance says.
func TestAnyCalls(t *testing.T) {
	writes, asks := map[api.Errno]int{}, map[api.Errno]int{}
	for _, seeds := range manySeeds() {
		for run := range uint64(6) {
			r := rand.New(rand.NewPCG(run, 21))
			p := newPair(seeds...)
			p.writes, p.asks = writes, asks
			up := []int{3, 7, 14}[run%3]
			for i := range 300 {
				p.do(t, anyWrite(r, up))
				if up < 5 || i%20 == 0 {
					p.all(t, up)
				} else {
					p.same(t)
					p.ask(t, about(api.QSpan, 1+r.IntN(up)))
				}
			}
			p.all(t, up)
		}
	}
	for _, e := range []api.Errno{api.OK, api.ErrArg, api.ErrExists, api.ErrNotFound, api.ErrInUse, api.ErrWeight} {
		if writes[e] < 50 {
			t.Errorf("%d came up %d times at writes", e, writes[e])
		}
	}
	for _, e := range []api.Errno{api.OK, api.ErrArg, api.ErrNotFound, api.ErrNoPath} {
		if asks[e] < 50 {
			t.Errorf("%d came up %d times at questions", e, asks[e])
		}
	}
}

// grown is an index and a graph of vertices and of edges between those that are no farther from one another than told.
func grown(t *testing.T, r *rand.Rand, verts, edges, far int, seeds ...int) *pair {
	t.Helper()
	p := newPair(seeds...)
	for v := 1; v <= verts; v++ {
		p.do(t, addV(v)[0])
	}
	for id := 1; id <= edges; id++ {
		p.do(t, anyEdge(r, id, verts, far))
	}
	return p
}

func anyEdge(r *rand.Rand, id, verts, far int) api.Write {
	u := r.IntN(verts)
	w := anyWrite(r, verts).W
	return addE(id, u+1, (u+r.IntN(far))%verts+1, min(max(w, 0), api.MaxWeight))
}

// P21.1: great graphs, whose edges go and come elsewhere.
func TestGreatGraphs(t *testing.T) {
	const verts, edges = 200, 330
	for _, far := range []int{2, 8, verts} {
		r := rand.New(rand.NewPCG(21, uint64(far)))
		p := grown(t, r, verts, edges, far, 7, 1)
		for i := range 400 {
			id := 1 + r.IntN(edges)
			p.do(t, delE(id))
			p.ask(t, about(api.QSpan, 1+r.IntN(verts)))
			p.do(t, anyEdge(r, id, verts, far))
			for _, kind := range []int{api.QJoined, api.QPathMax, api.QPathSum, api.QSpan} {
				p.ask(t, about(kind, 1+r.IntN(verts), 1+r.IntN(verts)))
			}
			if i%20 == 0 {
				p.same(t)
			}
		}
		for id := range edges {
			p.do(t, delE(id+1))
			p.ask(t, about(api.QSpan, 1+r.IntN(verts)))
		}
		p.same(t)
	}
}

// P21.2: an index that was built of a net answers as one that came to it by any writes, and goes on so, whatever chance says.
func TestBuiltAnswersAsGrown(t *testing.T) {
	const verts, edges = 9, 14
	for seed := range uint64(30) {
		r := rand.New(rand.NewPCG(seed, 212))
		p := grown(t, r, verts, edges, []int{2, 4, verts}[seed%3], int(seed))
		for range 60 {
			p.do(t, anyWrite(r, verts))
		}
		n := p.g.Net()
		seeds := [][]int{nil, {int(seed)}, {4, -9, 2}}[seed%3]
		q := &pair{x: built(t, n, seeds...), g: p.g.Clone(), writes: map[api.Errno]int{}, asks: map[api.Errno]int{}}
		q.all(t, verts)
		for range 60 {
			w := anyWrite(r, verts)
			p.do(t, w)
			q.do(t, w)
			p.same(t)
			q.same(t)
			for _, kind := range []int{api.QJoined, api.QPathMax, api.QPathSum, api.QSpan} {
				ask := about(kind, r.IntN(verts+2), r.IntN(verts+2))
				p.ask(t, ask)
				q.ask(t, ask)
			}
		}
		q.all(t, verts)
	}
}

// P21.1: what is asked changes nothing that is told later.
func TestAskingChangesNothing(t *testing.T) {
	for seed := range uint64(20) {
		r := rand.New(rand.NewPCG(seed, 213))
		const verts = 8
		asked, silent := index.New(1), index.New(1)
		for range 120 {
			w := anyWrite(r, verts)
			if e := asked.Do(w); e != silent.Do(w) {
				t.Fatalf("Do(%v) = %d", w, e)
			}
			for kind := range 13 {
				asked.Ask(about(kind, r.IntN(verts+1), r.IntN(verts+1)))
			}
			asked.Net()
		}
		a, b := asked.Net(), silent.Net()
		if !slices.Equal(a.Verts, b.Verts) || !slices.Equal(a.Edges, b.Edges) {
			t.Fatalf("Net = %v, want %v", a, b)
		}
		for kind := range 13 {
			for u := range verts + 1 {
				for v := range verts + 1 {
					ask(t, asked, about(kind, u, v), silent.Ask(about(kind, u, v)))
				}
			}
		}
	}
}
