package linkcut_test

import (
	"math"
	"testing"

	"skein/api"
	"skein/linkcut"
)

// noIds are numbers that are no ids.
var noIds = []int{0, -1, math.MinInt, api.MaxId + 1, 1<<32 + 1, math.MaxInt}

// want holds an error against the one that is wanted.
func want(t *testing.T, what string, got, want api.Errno) {
	t.Helper()
	if got != want {
		t.Fatalf("%s = %d, want %d", what, got, want)
	}
}

// got holds an answer against the one that is wanted, and its error.
func got[A comparable](t *testing.T, what string, x A, e api.Errno, wanted A, fails api.Errno) {
	t.Helper()
	if x != wanted || e != fails {
		t.Fatalf("%s = %v, %d, want %v, %d", what, x, e, wanted, fails)
	}
}

func link(t *testing.T, f *linkcut.Forest, id, u, v int, w int64) {
	t.Helper()
	want(t, "Link", f.Link(api.Edge{Id: id, U: u, V: v, W: w}), api.OK)
}

func cut(t *testing.T, f *linkcut.Forest, id int) {
	t.Helper()
	want(t, "Cut", f.Cut(id), api.OK)
}

// along wants a path, both ways.
func along(t *testing.T, f *linkcut.Forest, u, v int, greatest api.Edge, sum complex128) {
	t.Helper()
	for range 2 {
		joined, e := f.Joined(u, v)
		got(t, "Joined", joined, e, true, api.OK)
		a, e := f.Along(u, v)
		got(t, "Along", a, e, api.Agg{Max: greatest, Sum: sum}, api.OK)
		if math.Signbit(real(a.Sum)) || math.Signbit(imag(a.Sum)) {
			t.Fatalf("Along(%d, %d) has a nought with a minus sign", u, v)
		}
		u, v = v, u
	}
}

// apart wants no path, neither way.
func apart(t *testing.T, f *linkcut.Forest, u, v int) {
	t.Helper()
	for range 2 {
		joined, e := f.Joined(u, v)
		got(t, "Joined", joined, e, false, api.OK)
		a, e := f.Along(u, v)
		got(t, "Along", a, e, api.Agg{}, api.ErrNoPath)
		u, v = v, u
	}
}

// noVertex wants ErrNotFound of every call that asks for a vertex.
func noVertex(t *testing.T, f *linkcut.Forest, v int) {
	t.Helper()
	for _, x := range []int{v, 1, 0, api.MaxId} {
		for _, ends := range [][2]int{{v, x}, {x, v}} {
			joined, e := f.Joined(ends[0], ends[1])
			got(t, "Joined", joined, e, false, api.ErrNotFound)
			a, e := f.Along(ends[0], ends[1])
			got(t, "Along", a, e, api.Agg{}, api.ErrNotFound)
		}
	}
}

// noEdge wants that there is no such edge.
func noEdge(t *testing.T, f *linkcut.Forest, ids ...int) {
	t.Helper()
	for _, id := range ids {
		if e, ok := f.Edge(id); ok || e != (api.Edge{}) {
			t.Fatalf("Edge(%d) = %v, %v", id, e, ok)
		}
	}
}

func size(t *testing.T, f *linkcut.Forest, verts, edges int) {
	t.Helper()
	if v, e := f.Len(); v != verts || e != edges {
		t.Fatalf("Len = %d, %d, want %d, %d", v, e, verts, edges)
	}
}

// alone is a forest of vertices that aren't joined.
func alone(t *testing.T, ids ...int) *linkcut.Forest {
	t.Helper()
	f := linkcut.New()
	for _, v := range ids {
		want(t, "AddV", f.AddV(v), api.OK)
	}
	return f
}

// The edges of the chapter's example.
var (
	seven = api.Edge{Id: 7, U: 1, V: 2, W: 5}
	eight = api.Edge{Id: 8, U: 2, V: 3, W: 4}
)

// example is the chapter's forest, ahead of its Cut, and a vertex more that is alone.
func example(t *testing.T) *linkcut.Forest {
	t.Helper()
	f := alone(t, 1, 2, 3, 4)
	want(t, "Link", f.Link(seven), api.OK)
	want(t, "Link", f.Link(eight), api.OK)
	return f
}

func TestExample(t *testing.T) {
	f := example(t)
	along(t, f, 1, 3, seven, 9+2i)
	want(t, "Link", f.Link(api.Edge{Id: 9, U: 1, V: 3, W: 1}), api.ErrLink)
	cut(t, f, 7)
	apart(t, f, 1, 3)
	along(t, f, 2, 3, eight, 4+1i)
}

// P17.1: of a forest without vertices there is nothing to tell.
func TestNew(t *testing.T) {
	f := linkcut.New()
	size(t, f, 0, 0)
	for _, v := range append(noIds, 1, api.MaxId) {
		noVertex(t, f, v)
		noEdge(t, f, v)
	}
}

// P17.1: from a vertex to itself there is no edge.
func TestToItself(t *testing.T) {
	f := example(t)
	for range 2 {
		for v := 1; v <= 4; v++ {
			along(t, f, v, v, api.Edge{}, 0)
		}
		along(t, f, 1, 3, seven, 9+2i)
		apart(t, f, 3, 4)
	}
}

// P17.1: what AddV and DelV refuse, in the order in which it is named.
func TestVertices(t *testing.T) {
	f := example(t)
	for _, v := range noIds {
		want(t, "AddV", f.AddV(v), api.ErrArg)
		want(t, "DelV", f.DelV(v), api.ErrArg)
		noVertex(t, f, v)
	}
	for v := 1; v <= 4; v++ {
		want(t, "AddV", f.AddV(v), api.ErrExists)
	}
	for v := 1; v <= 3; v++ {
		want(t, "DelV", f.DelV(v), api.ErrInUse)
	}
	for _, v := range []int{5, 7, 8, api.MaxId} { // an edge is no vertex
		want(t, "DelV", f.DelV(v), api.ErrNotFound)
		noVertex(t, f, v)
	}
	size(t, f, 4, 2)
	along(t, f, 1, 3, seven, 9+2i)
	want(t, "DelV", f.DelV(4), api.OK)
	want(t, "DelV", f.DelV(4), api.ErrNotFound)
	noVertex(t, f, 4)
	want(t, "AddV", f.AddV(api.MaxId), api.OK)
	along(t, f, api.MaxId, api.MaxId, api.Edge{}, 0)
	cut(t, f, 7)
	want(t, "DelV", f.DelV(1), api.OK)
	want(t, "DelV", f.DelV(2), api.ErrInUse)
	cut(t, f, 8)
	want(t, "DelV", f.DelV(2), api.OK)
	want(t, "DelV", f.DelV(3), api.OK)
	size(t, f, 1, 0)
	want(t, "AddV", f.AddV(2), api.OK) // what comes back is alone
	apart(t, f, 2, api.MaxId)
}

// P17.1: what Link refuses, in the order in which it is named.
func TestWrongLinks(t *testing.T) {
	f := example(t)
	refused := func(id, u, v int, w int64, wanted api.Errno) {
		t.Helper()
		want(t, "Link", f.Link(api.Edge{Id: id, U: u, V: v, W: w}), wanted)
	}
	noWeights := []int64{-1, math.MinInt64, api.MaxWeight + 1, math.MaxInt64}
	for _, x := range noIds {
		for _, y := range []int{1, 7, 9, x} {
			for _, w := range append(noWeights, 0, 1) {
				refused(x, y, 4, w, api.ErrArg)
				refused(7, x, y, w, api.ErrArg)
				refused(9, y, x, w, api.ErrArg)
			}
		}
	}
	for _, w := range noWeights {
		refused(9, 3, 4, w, api.ErrWeight)
		refused(9, 1, 2, w, api.ErrWeight)
		refused(9, 5, 6, w, api.ErrWeight)
		refused(7, 1, 4, w, api.ErrWeight)
	}
	for _, ends := range [][2]int{{1, 2}, {1, 4}, {4, 4}, {1, 5}, {5, 1}, {5, 6}} {
		refused(7, ends[0], ends[1], 5, api.ErrExists)
		refused(8, ends[0], ends[1], 0, api.ErrExists)
	}
	for _, ends := range [][2]int{{1, 5}, {5, 1}, {5, 5}, {5, 6}, {api.MaxId, 1}, {7, 8}} {
		refused(9, ends[0], ends[1], 5, api.ErrNotFound)
	}
	for _, ends := range [][2]int{{1, 1}, {4, 4}, {1, 2}, {2, 1}, {1, 3}, {3, 1}} {
		refused(9, ends[0], ends[1], 5, api.ErrLink)
	}
	size(t, f, 4, 2)
	noEdge(t, f, 9)
	along(t, f, 1, 3, seven, 9+2i)
	apart(t, f, 4, 1)
	want(t, "DelV", f.DelV(4), api.OK) // nothing hangs on it
}

// P17.1: what Cut refuses, in the order in which it is named.
func TestWrongCuts(t *testing.T) {
	f := example(t)
	for _, x := range noIds {
		want(t, "Cut", f.Cut(x), api.ErrArg)
		noEdge(t, f, x)
	}
	for _, id := range []int{1, 2, 9, api.MaxId} { // a vertex is no edge
		want(t, "Cut", f.Cut(id), api.ErrUnder)
		noEdge(t, f, id)
	}
	size(t, f, 4, 2)
	along(t, f, 1, 3, seven, 9+2i)
	cut(t, f, 8)
	want(t, "Cut", f.Cut(8), api.ErrUnder)
	noEdge(t, f, 8)
	size(t, f, 4, 1)
	along(t, f, 1, 2, seven, 5+1i)
}

// P17.1: an edge is told as it was handed in, as long as it is there.
func TestEdge(t *testing.T) {
	f := alone(t, 1, 2, api.MaxId)
	for _, e := range []api.Edge{
		{Id: 1, U: 2, V: 1, W: 0},
		{Id: api.MaxId, U: api.MaxId, V: 1, W: api.MaxWeight},
	} {
		want(t, "Link", f.Link(e), api.OK)
		if told, ok := f.Edge(e.Id); !ok || told != e {
			t.Fatalf("Edge(%d) = %v, %v, want %v", e.Id, told, ok, e)
		}
		along(t, f, e.U, e.V, e, complex(float64(e.W), 1))
	}
	noEdge(t, f, 2, 3)
	size(t, f, 3, 2)
	cut(t, f, 1)
	again := api.Edge{Id: 1, U: 1, V: 2, W: 3} // an id that is free may be another edge's
	want(t, "Link", f.Link(again), api.OK)
	if told, ok := f.Edge(1); !ok || told != again {
		t.Fatalf("Edge(1) = %v, %v, want %v", told, ok, again)
	}
	along(t, f, 1, 2, again, 3+1i)
}

// P17.1: of two edges of one weight that one is greater whose id is.
func TestGreatest(t *testing.T) {
	f := alone(t, 1, 2, 3, 4, 5, 6)
	edges := []api.Edge{
		{Id: 30, U: 1, V: 2, W: 0},
		{Id: 10, U: 3, V: 2, W: 0},
		{Id: 20, U: 3, V: 4, W: 4},
		{Id: 40, U: 4, V: 5, W: 4},
		{Id: 5, U: 6, V: 5, W: 4},
	}
	for _, e := range edges {
		want(t, "Link", f.Link(e), api.OK)
	}
	along(t, f, 2, 3, edges[1], 0+1i) // no weight, but an edge
	along(t, f, 1, 3, edges[0], 0+2i)
	along(t, f, 1, 4, edges[2], 4+3i)
	along(t, f, 3, 5, edges[3], 8+2i)
	along(t, f, 4, 6, edges[3], 8+2i)
	along(t, f, 6, 5, edges[4], 4+1i)
	along(t, f, 1, 6, edges[3], 12+5i)
	cut(t, f, 40)
	apart(t, f, 1, 6)
	along(t, f, 1, 4, edges[2], 4+3i)
	link(t, f, 40, 4, 6, 3) // the way around: 40 is the least one now
	along(t, f, 5, 4, edges[4], 7+2i)
	along(t, f, 1, 5, edges[2], 11+5i)
}

// P17.1: as many vertices as may be, in one tree, of any form, with the greatest weights: no sum is too great to be told.
func TestMany(t *testing.T) {
	const most = api.MaxVerts
	for name, x := range map[string]struct {
		to   func(v int) int
		far  [2]int
		long int
	}{
		"line": {func(v int) int { return v - 1 }, [2]int{1, most}, most - 1},
		"star": {func(v int) int { return 1 }, [2]int{2, most}, 2},
		"tree": {func(v int) int { return v / 2 }, [2]int{most, most - 1}, 21},
	} {
		f := linkcut.New()
		for v := 1; v <= most; v++ {
			want(t, "AddV", f.AddV(v), api.OK)
		}
		for range 2 {
			want(t, "AddV", f.AddV(most+1), api.ErrMany)
			want(t, "AddV", f.AddV(1), api.ErrExists)
			want(t, "AddV", f.AddV(0), api.ErrArg)
		}
		for v := 2; v <= most; v++ {
			link(t, f, v, v, x.to(v), api.MaxWeight)
		}
		size(t, f, most, most-1)
		a, e := f.Along(x.far[0], x.far[1])
		got(t, name, a.Sum, e, complex(float64(api.MaxWeight)*float64(x.long), float64(x.long)), api.OK)
		got(t, name, a.Max, e, api.Edge{Id: most, U: most, V: x.to(most), W: api.MaxWeight}, api.OK)
		cut(t, f, 1000)
		apart(t, f, 1000, 1)
		link(t, f, 1000, 1000, x.to(1000), api.MaxWeight-1)
		b, e := f.Along(1000, x.to(1000))
		got(t, name, b.Sum, e, complex(api.MaxWeight-1, 1), api.OK)
		for v := 2; v <= most; v++ {
			cut(t, f, v)
		}
		for v := 2; v <= most; v++ {
			apart(t, f, v, x.to(v))
		}
		size(t, f, most, 0)
		want(t, "DelV", f.DelV(9), api.OK)
		want(t, "AddV", f.AddV(api.MaxId), api.OK)
		want(t, "AddV", f.AddV(9), api.ErrMany)
	}
}

// P17.1: sums are told to the last unit, however long the path is.
func TestExactSums(t *testing.T) {
	f := alone(t, 1)
	sum := int64(0)
	for v := 2; v <= api.MaxVerts; v++ {
		want(t, "AddV", f.AddV(v), api.OK)
		w := int64(api.MaxWeight - v%7)
		link(t, f, v, v-1, v, w)
		sum += w
		a, e := f.Along(1, v)
		got(t, "Along", a.Sum, e, complex(float64(sum), float64(v-1)), api.OK)
		got(t, "Along", int64(real(a.Sum)), e, sum, api.OK)
	}
}

// P17.1: however often something comes and goes, the rest stays.
func TestComingAndGoing(t *testing.T) {
	f := alone(t, 1, 2, 3)
	link(t, f, 1, 1, 2, 6)
	for i := range 50000 {
		w := int64(i % 10)
		link(t, f, 9, 2, 3, w)
		want(t, "AddV", f.AddV(9), api.OK)
		link(t, f, 8, 9, 1, 2)
		a, e := f.Along(9, 3)
		got(t, "Along", a.Sum, e, complex(float64(w+8), 3), api.OK)
		want(t, "DelV", f.DelV(9), api.ErrInUse)
		cut(t, f, 9)
		cut(t, f, 8)
		want(t, "DelV", f.DelV(9), api.OK)
	}
	size(t, f, 3, 1)
	along(t, f, 1, 2, api.Edge{Id: 1, U: 1, V: 2, W: 6}, 6+1i)
	apart(t, f, 2, 3)
}

// P17.3: two forests share nothing.
func TestTwoForests(t *testing.T) {
	f, g := example(t), alone(t, 1, 2, 3)
	link(t, g, 8, 1, 3, 2)
	along(t, f, 1, 3, seven, 9+2i)
	apart(t, g, 1, 2)
	cut(t, f, 8)
	along(t, g, 1, 3, api.Edge{Id: 8, U: 1, V: 3, W: 2}, 2+1i)
	want(t, "DelV", g.DelV(2), api.OK)
	along(t, f, 1, 2, seven, 5+1i)
	noEdge(t, g, 7)
	noEdge(t, f, 8)
	size(t, f, 4, 1)
	size(t, g, 2, 1)
}
