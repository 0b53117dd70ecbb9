package msf_test

import (
	"math"
	"slices"
	"testing"

	"skein/api"
	"skein/msf"
)

// noIds are numbers that are no ids; noWeights are no weights.
var (
	noIds     = []int{0, -1, math.MinInt, api.MaxId + 1, 1<<32 + 1, math.MaxInt}
	noWeights = []int64{-1, math.MinInt64, api.MaxWeight + 1, math.MaxInt64}
)

// want holds an error against the one that is wanted.
func want(t *testing.T, what string, got, want api.Errno) {
	t.Helper()
	if got != want {
		t.Fatalf("%s = %d, want %d", what, got, want)
	}
}

// got holds an answer against the one that is wanted, and its error.
func got[A comparable](t *testing.T, what string, x A, e api.Errno, wanted A, fails api.Errno) {
	t.Helper()
	if x != wanted || e != fails {
		t.Fatalf("%s = %v, %d, want %v, %d", what, x, e, wanted, fails)
	}
}

// add wants that an edge comes, and what that does to the forest.
func add(t *testing.T, g *msf.Graph, e api.Edge, in, out int) {
	t.Helper()
	swap, err := g.AddE(e)
	got(t, "AddE", swap, err, msf.Swap{In: in, Out: out}, api.OK)
}

// del wants that an edge goes, and what that does to the forest.
func del(t *testing.T, g *msf.Graph, id, in, out int) {
	t.Helper()
	swap, err := g.DelE(id)
	got(t, "DelE", swap, err, msf.Swap{In: in, Out: out}, api.OK)
}

// forest wants a forest of a weight.
func forest(t *testing.T, g *msf.Graph, weight int64, ids ...int) {
	t.Helper()
	if told := g.Forest(); !slices.Equal(told, ids) {
		t.Fatalf("Forest = %v, want %v", told, ids)
	}
	if told := g.Weight(); told != weight {
		t.Fatalf("Weight = %d, want %d", told, weight)
	}
}

// along wants a path, both ways.
func along(t *testing.T, g *msf.Graph, u, v int, greatest api.Edge, sum complex128) {
	t.Helper()
	for range 2 {
		joined, e := g.Joined(u, v)
		got(t, "Joined", joined, e, true, api.OK)
		a, e := g.Along(u, v)
		got(t, "Along", a, e, api.Agg{Max: greatest, Sum: sum}, api.OK)
		if math.Signbit(real(a.Sum)) || math.Signbit(imag(a.Sum)) {
			t.Fatalf("Along(%d, %d) has a nought with a minus sign", u, v)
		}
		u, v = v, u
	}
}

// apart wants no path, neither way.
func apart(t *testing.T, g *msf.Graph, u, v int) {
	t.Helper()
	for range 2 {
		joined, e := g.Joined(u, v)
		got(t, "Joined", joined, e, false, api.OK)
		a, e := g.Along(u, v)
		got(t, "Along", a, e, api.Agg{}, api.ErrNoPath)
		u, v = v, u
	}
}

// noVertex wants ErrNotFound of every call that asks for a vertex.
func noVertex(t *testing.T, g *msf.Graph, v int) {
	t.Helper()
	for _, x := range []int{v, 1, 0, api.MaxId} {
		for _, ends := range [][2]int{{v, x}, {x, v}} {
			joined, e := g.Joined(ends[0], ends[1])
			got(t, "Joined", joined, e, false, api.ErrNotFound)
			a, e := g.Along(ends[0], ends[1])
			got(t, "Along", a, e, api.Agg{}, api.ErrNotFound)
		}
	}
}

// edge wants an edge as it was handed in.
func edge(t *testing.T, g *msf.Graph, e api.Edge) {
	t.Helper()
	if told, ok := g.Edge(e.Id); !ok || told != e {
		t.Fatalf("Edge(%d) = %v, %v, want %v", e.Id, told, ok, e)
	}
}

// noEdge wants that there is no such edge.
func noEdge(t *testing.T, g *msf.Graph, ids ...int) {
	t.Helper()
	for _, id := range ids {
		if e, ok := g.Edge(id); ok || e != (api.Edge{}) {
			t.Fatalf("Edge(%d) = %v, %v", id, e, ok)
		}
	}
}

func size(t *testing.T, g *msf.Graph, verts, edges int) {
	t.Helper()
	if v, e := g.Len(); v != verts || e != edges {
		t.Fatalf("Len = %d, %d, want %d, %d", v, e, verts, edges)
	}
}

// alone is a graph of vertices that aren't joined.
func alone(t *testing.T, ids ...int) *msf.Graph {
	t.Helper()
	g := msf.New()
	for _, v := range ids {
		want(t, "AddV", g.AddV(v), api.OK)
	}
	return g
}

// The edges of the chapter's example.
var (
	one   = api.Edge{Id: 1, U: 1, V: 2, W: 5}
	two   = api.Edge{Id: 2, U: 2, V: 3, W: 4}
	three = api.Edge{Id: 3, U: 1, V: 3, W: 4}
)

// example is the chapter's graph, ahead of its DelE, and a vertex more that is alone.
func example(t *testing.T) *msf.Graph {
	t.Helper()
	g := alone(t, 1, 2, 3, 4)
	add(t, g, one, 1, 0)
	add(t, g, two, 2, 0)
	add(t, g, three, 3, 1)
	return g
}

// unchanged wants the example.
func unchanged(t *testing.T, g *msf.Graph) {
	t.Helper()
	size(t, g, 4, 3)
	forest(t, g, 8, 2, 3)
	along(t, g, 1, 2, three, 8+2i)
	apart(t, g, 4, 1)
	edge(t, g, one)
	edge(t, g, two)
	edge(t, g, three)
}

func TestExample(t *testing.T) {
	g := example(t)
	unchanged(t, g)
	del(t, g, 2, 1, 2)
	forest(t, g, 9, 1, 3)
	along(t, g, 2, 3, one, 9+2i)
	noEdge(t, g, 2)
}

// P19.1: of a graph without vertices there is nothing to tell.
func TestNew(t *testing.T) {
	g := msf.New()
	size(t, g, 0, 0)
	forest(t, g, 0)
	for _, v := range append(noIds, 1, api.MaxId) {
		noVertex(t, g, v)
		noEdge(t, g, v)
	}
}

// P19.1: what AddV and DelV refuse, in the order in which it is named.
func TestVertices(t *testing.T) {
	g := example(t)
	for _, v := range noIds {
		want(t, "AddV", g.AddV(v), api.ErrArg)
		want(t, "DelV", g.DelV(v), api.ErrArg)
		noVertex(t, g, v)
	}
	for v := 1; v <= 4; v++ {
		want(t, "AddV", g.AddV(v), api.ErrExists)
	}
	for v := 1; v <= 3; v++ {
		want(t, "DelV", g.DelV(v), api.ErrInUse)
	}
	for _, v := range []int{5, 7, api.MaxId} {
		want(t, "DelV", g.DelV(v), api.ErrNotFound)
		noVertex(t, g, v)
	}
	unchanged(t, g)
	want(t, "DelV", g.DelV(4), api.OK)
	want(t, "DelV", g.DelV(4), api.ErrNotFound)
	noVertex(t, g, 4)
	want(t, "AddV", g.AddV(api.MaxId), api.OK)
	along(t, g, api.MaxId, api.MaxId, api.Edge{}, 0)
	apart(t, g, api.MaxId, 1)
	del(t, g, 2, 1, 2)
	del(t, g, 1, 0, 1)
	want(t, "DelV", g.DelV(2), api.OK)
	want(t, "DelV", g.DelV(1), api.ErrInUse)
	del(t, g, 3, 0, 3)
	want(t, "DelV", g.DelV(1), api.OK)
	want(t, "AddV", g.AddV(2), api.OK) // what comes back is alone
	apart(t, g, 2, 3)
	size(t, g, 3, 0)
	forest(t, g, 0)
}

// P19.1: what AddE refuses, in the order in which it is named.
func TestWrongAdds(t *testing.T) {
	g := example(t)
	refused := func(id, u, v int, w int64, wanted api.Errno) {
		t.Helper()
		swap, e := g.AddE(api.Edge{Id: id, U: u, V: v, W: w})
		got(t, "AddE", swap, e, msf.Swap{}, wanted)
	}
	for _, x := range noIds {
		for _, y := range []int{1, 3, 9, x} {
			for _, w := range append(noWeights, 0, 1) {
				refused(x, y, 4, w, api.ErrArg)
				refused(3, x, y, w, api.ErrArg)
				refused(9, y, x, w, api.ErrArg)
			}
		}
	}
	for _, w := range noWeights {
		refused(9, 3, 4, w, api.ErrWeight)
		refused(9, 1, 2, w, api.ErrWeight)
		refused(9, 5, 6, w, api.ErrWeight)
		refused(3, 1, 4, w, api.ErrWeight)
		refused(1, 4, 4, w, api.ErrWeight)
	}
	for _, ends := range [][2]int{{1, 2}, {1, 4}, {4, 4}, {1, 5}, {5, 1}, {5, 6}} {
		for id := 1; id <= 3; id++ {
			refused(id, ends[0], ends[1], 0, api.ErrExists)
			refused(id, ends[0], ends[1], 5, api.ErrExists)
		}
	}
	for _, ends := range [][2]int{{1, 5}, {5, 1}, {5, 5}, {5, 6}, {api.MaxId, 1}, {4, 7}} {
		refused(9, ends[0], ends[1], 0, api.ErrNotFound)
	}
	unchanged(t, g)
	noEdge(t, g, 9)
	want(t, "DelV", g.DelV(4), api.OK) // nothing hangs on it
}

// P19.1: what DelE refuses, in the order in which it is named.
func TestWrongDels(t *testing.T) {
	g := example(t)
	refused := func(id int, wanted api.Errno) {
		t.Helper()
		swap, e := g.DelE(id)
		got(t, "DelE", swap, e, msf.Swap{}, wanted)
	}
	for _, x := range noIds {
		refused(x, api.ErrArg)
		noEdge(t, g, x)
	}
	for _, id := range []int{4, 9, api.MaxId} { // a vertex is no edge
		refused(id, api.ErrUnder)
		noEdge(t, g, id)
	}
	unchanged(t, g)
	del(t, g, 1, 0, 0) // it isn't in the forest
	refused(1, api.ErrUnder)
	noEdge(t, g, 1)
	forest(t, g, 8, 2, 3)
	del(t, g, 2, 0, 2)
	refused(2, api.ErrUnder)
	forest(t, g, 4, 3)
	size(t, g, 4, 1)
	again := api.Edge{Id: 2, U: 4, V: 1, W: 0} // an id that is free may be another edge's
	add(t, g, again, 2, 0)
	edge(t, g, again)
	along(t, g, 3, 4, three, 4+2i)
}

// P19.1: an edge from a vertex to itself is in no forest, but hangs on it.
func TestToItself(t *testing.T) {
	g := alone(t, 1, 2)
	loops := []api.Edge{{Id: 1, U: 1, V: 1}, {Id: 2, U: 1, V: 1, W: api.MaxWeight}, {Id: api.MaxId, U: 2, V: 2, W: 3}}
	for _, e := range loops {
		add(t, g, e, 0, 0)
		edge(t, g, e)
	}
	forest(t, g, 0)
	apart(t, g, 1, 2)
	along(t, g, 1, 1, api.Edge{}, 0)
	joins := api.Edge{Id: 7, U: 2, V: 1, W: 4}
	add(t, g, joins, 7, 0)
	along(t, g, 1, 2, joins, 4+1i)
	size(t, g, 2, 4)
	del(t, g, 7, 0, 7)
	forest(t, g, 0)
	want(t, "DelV", g.DelV(1), api.ErrInUse)
	del(t, g, 2, 0, 0)
	want(t, "DelV", g.DelV(1), api.ErrInUse)
	del(t, g, 1, 0, 0)
	want(t, "DelV", g.DelV(1), api.OK)
	want(t, "DelV", g.DelV(2), api.ErrInUse)
	del(t, g, api.MaxId, 0, 0)
	want(t, "DelV", g.DelV(2), api.OK)
	size(t, g, 0, 0)
}

// P19.2: of several edges between two the least one is in the forest, by weight, and of the same weight by id.
func TestSeveralBetweenTwo(t *testing.T) {
	g := alone(t, 1, 2)
	edges := []api.Edge{
		{Id: 20, U: 1, V: 2, W: 4},
		{Id: 30, U: 2, V: 1, W: 4}, // greater by its id
		{Id: 10, U: 2, V: 1, W: 4}, // less by its id
		{Id: 5, U: 1, V: 2, W: 5},
		{Id: 40, U: 1, V: 2, W: 3},
		{Id: api.MaxId, U: 1, V: 2, W: 0},
		{Id: 1, U: 1, V: 2, W: api.MaxWeight},
	}
	swaps := []msf.Swap{{In: 20}, {}, {In: 10, Out: 20}, {}, {In: 40, Out: 10}, {In: api.MaxId, Out: 40}, {}}
	for i, e := range edges {
		add(t, g, e, swaps[i].In, swaps[i].Out)
	}
	forest(t, g, 0, api.MaxId)
	del(t, g, api.MaxId, 40, api.MaxId)
	forest(t, g, 3, 40)
	del(t, g, 20, 0, 0)
	del(t, g, 40, 10, 40)
	del(t, g, 10, 30, 10)
	along(t, g, 1, 2, edges[1], 4+1i)
	del(t, g, 30, 5, 30)
	forest(t, g, 5, 5)
	del(t, g, 5, 1, 5)
	forest(t, g, api.MaxWeight, 1)
	along(t, g, 1, 2, edges[6], api.MaxWeight+1i)
	del(t, g, 1, 0, 1)
	forest(t, g, 0)
	apart(t, g, 1, 2)
}

// P19.2: of the way round that an edge closes the greatest one goes, be it the edge itself; and it is back when one of the others goes.
func TestWayRound(t *testing.T) {
	const verts = 30
	for w := range int64(2 * verts) {
		g := msf.New()
		for v := 1; v <= verts; v++ {
			want(t, "AddV", g.AddV(v), api.OK)
		}
		for id := 2; id <= verts; id++ { // weights 1, 3, 5 .. in some order, the greatest at w
			add(t, g, api.Edge{Id: id, U: id - 1, V: id, W: int64(id*7%verts*2 + 1)}, id, 0)
		}
		most := api.Edge{}
		for id := 2; id <= verts; id++ {
			if e, _ := g.Edge(id); e.W > most.W {
				most = e
			}
		}
		before := g.Weight()
		last := api.Edge{Id: 1, U: verts, V: 1, W: w}
		if w > most.W {
			add(t, g, last, 0, 0)
			most = last
		} else {
			add(t, g, last, 1, most.Id)
			before += w - most.W
		}
		if g.Weight() != before {
			t.Fatalf("Weight = %d, want %d", g.Weight(), before)
		}
		gone := 1 + int(w)%verts
		e, _ := g.Edge(gone)
		if gone == most.Id {
			del(t, g, gone, 0, 0)
			continue
		}
		del(t, g, gone, most.Id, gone)
		if g.Weight() != before-e.W+most.W {
			t.Fatalf("Weight = %d, want %d", g.Weight(), before-e.W+most.W)
		}
	}
}

// P19.1: as many vertices and edges as may be, with the greatest weights: no sum is too great to be told.
func TestMany(t *testing.T) {
	const most = api.MaxVerts
	g := msf.New(2, 9)
	for v := 1; v <= most; v++ {
		want(t, "AddV", g.AddV(v), api.OK)
	}
	for id := 1; id < most; id++ {
		add(t, g, api.Edge{Id: id, U: id, V: id + 1, W: api.MaxWeight}, id, 0)
	}
	last := api.Edge{Id: most, U: most, V: 1, W: api.MaxWeight}
	add(t, g, last, 0, 0) // greater by its id
	refused := func(id, u, v int, w int64, wanted api.Errno) {
		t.Helper()
		swap, e := g.AddE(api.Edge{Id: id, U: u, V: v, W: w})
		got(t, "AddE", swap, e, msf.Swap{}, wanted)
	}
	for range 2 {
		want(t, "AddV", g.AddV(most+1), api.ErrMany)
		want(t, "AddV", g.AddV(1), api.ErrExists)
		want(t, "AddV", g.AddV(0), api.ErrArg)
		refused(api.MaxId, 1, 2, 0, api.ErrMany)
		refused(api.MaxId, 1, 1, 0, api.ErrMany)
		refused(api.MaxId, 1, most+1, 0, api.ErrNotFound)
		refused(1, 1, most+1, 0, api.ErrExists)
		refused(1, 1, 2, -1, api.ErrWeight)
		refused(0, 1, 2, -1, api.ErrArg)
	}
	size(t, g, most, api.MaxEdges)
	const all = int64(most-1) * api.MaxWeight
	if g.Weight() != all || len(g.Forest()) != most-1 {
		t.Fatalf("Weight = %d, want %d", g.Weight(), all)
	}
	end, _ := g.Edge(most - 1)
	along(t, g, 1, most, end, complex(float64(all), most-1))
	del(t, g, 1000, most, 1000)
	along(t, g, 1, most, last, api.MaxWeight+1i)
	for id := 1; id <= most; id++ {
		if id != 1000 {
			del(t, g, id, 0, id)
		}
	}
	forest(t, g, 0)
	want(t, "DelV", g.DelV(9), api.OK)
	want(t, "AddV", g.AddV(api.MaxId), api.OK)
	want(t, "AddV", g.AddV(9), api.ErrMany)
	size(t, g, most, 0)
}

// P19.1: as many edges as may be on few vertices, that come from the greatest down and go from the least up, so that each one changes the forest.
func TestManyOnFew(t *testing.T) {
	g := alone(t, 1, 2, 3)
	edge := func(i int) api.Edge { return api.Edge{Id: i, U: 1 + i%3, V: 1 + (i+1)%3, W: int64(i / 5)} }
	for i := api.MaxEdges; i >= 1; i-- {
		out := i + 2 // of the way round of three that it closes
		if out > api.MaxEdges {
			out = 0
		}
		add(t, g, edge(i), i, out)
	}
	size(t, g, 3, api.MaxEdges)
	forest(t, g, 0, 1, 2)
	for i := 1; i <= api.MaxEdges; i++ {
		in := i + 2
		if in > api.MaxEdges {
			in = 0
		}
		del(t, g, i, in, i)
	}
	forest(t, g, 0)
	size(t, g, 3, 0)
}

// P19.1: however often something comes and goes, there is room for it, and the rest stays.
func TestComingAndGoing(t *testing.T) {
	g := example(t)
	for i := range 20000 {
		want(t, "AddV", g.AddV(9), api.OK)
		add(t, g, api.Edge{Id: 7, U: 9, V: 4, W: 3}, 7, 0)
		add(t, g, api.Edge{Id: 8, U: 1 + i%3, V: 9, W: 7}, 8, 0)
		add(t, g, api.Edge{Id: 9, U: 4, V: 1 + i%3, W: 5}, 9, 8)
		add(t, g, api.Edge{Id: 6, U: 9, V: 9, W: 0}, 0, 0)
		forest(t, g, 16, 2, 3, 7, 9)
		del(t, g, 6, 0, 0)
		if i%2 == 0 {
			del(t, g, 9, 8, 9)
		} else {
			del(t, g, 8, 0, 0)
		}
		del(t, g, 7, 0, 7)
		del(t, g, 9-(i+1)%2, 0, 9-(i+1)%2)
		want(t, "DelV", g.DelV(9), api.OK)
	}
	unchanged(t, g)
}

// P19.3, and what is handed in is neither changed nor kept.
func TestArgumentsAndAnswersAreTheirOwners(t *testing.T) {
	seeds := []int{5, 1, 4, 2, 3}
	g := msf.New(seeds[:3]...)
	if !slices.Equal(seeds, []int{5, 1, 4, 2, 3}) {
		t.Fatalf("New has changed its seeds: %v", seeds)
	}
	overwrite(seeds)
	for v := 1; v <= 4; v++ {
		want(t, "AddV", g.AddV(v), api.OK)
	}
	add(t, g, one, 1, 0)
	add(t, g, two, 2, 0)
	add(t, g, three, 3, 1)
	told, other := g.Forest(), g.Forest()
	overwrite(told)
	if !slices.Equal(other, []int{2, 3}) {
		t.Fatalf("two answers share memory: %v", other)
	}
	overwrite(other)
	unchanged(t, g)
}

// overwrite writes over a list and its spare room.
func overwrite(list []int) {
	list = list[:cap(list)]
	for i := range list {
		list[i] = 99
	}
}

// P19.3: two graphs share nothing.
func TestTwoGraphs(t *testing.T) {
	g, h := example(t), alone(t, 1, 2, 3)
	other := api.Edge{Id: 3, U: 2, V: 3, W: 2}
	add(t, h, other, 3, 0)
	unchanged(t, g)
	forest(t, h, 2, 3)
	del(t, g, 3, 1, 3)
	apart(t, h, 1, 2)
	edge(t, h, other)
	del(t, h, 3, 0, 3)
	want(t, "DelV", h.DelV(2), api.OK)
	forest(t, g, 9, 1, 2)
	along(t, g, 1, 3, one, 9+2i)
	noEdge(t, h, 1, 2, 3)
	size(t, g, 4, 2)
	size(t, h, 2, 0)
}
