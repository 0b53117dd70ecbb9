package span_test

import (
	"math"
	"slices"
	"testing"

	"skein/api"
	"skein/span"
)

// noIds are numbers that are no ids; noWeights are no weights.
var (
	noIds     = []int{0, -1, math.MinInt, api.MaxId + 1, 1<<32 + 1, math.MaxInt}
	noWeights = []int64{-1, math.MinInt64, api.MaxWeight + 1, math.MaxInt64}
)

// want holds an error against the one that is wanted.
func want(t *testing.T, what string, got, want api.Errno) {
	t.Helper()
	if got != want {
		t.Fatalf("%s = %d, want %d", what, got, want)
	}
}

// got holds an answer against the one that is wanted, and its error.
func got[A comparable](t *testing.T, what string, x A, e api.Errno, wanted A, fails api.Errno) {
	t.Helper()
	if x != wanted || e != fails {
		t.Fatalf("%s = %v, %d, want %v, %d", what, x, e, wanted, fails)
	}
}

func link(t *testing.T, f *span.Forest, id, u, v int, w int64) {
	t.Helper()
	want(t, "Link", f.Link(api.Edge{Id: id, U: u, V: v, W: w}), api.OK)
}

func cut(t *testing.T, f *span.Forest, id int) {
	t.Helper()
	want(t, "Cut", f.Cut(id), api.OK)
}

// ends holds what is told of a vertex's tree against its span: its ends are so far apart, and two, unless it is alone.
func ends(t *testing.T, f *span.Forest, u int, far int64, alone bool) {
	t.Helper()
	told, e := f.Span(u)
	got(t, "Span", told, e, far, api.OK)
	a, b, e := f.Ends(u)
	want(t, "Ends", e, api.OK)
	for _, end := range []int{a, b} {
		if _, e := f.Distance(u, end); e != api.OK {
			t.Fatalf("Ends(%d) = %d, %d, but Distance(%d, %d) is refused: %d", u, a, b, u, end, e)
		}
	}
	told, e = f.Distance(a, b)
	got(t, "Distance of Ends", told, e, far, api.OK)
	if (a == b) != alone || alone && a != u {
		t.Fatalf("Ends(%d) = %d, %d", u, a, b)
	}
}

// tree holds what is told of a tree of two vertices or more against its span.
func tree(t *testing.T, f *span.Forest, far int64, verts ...int) {
	t.Helper()
	for _, u := range verts {
		ends(t, f, u, far, false)
		a, b, _ := f.Ends(u)
		if !slices.Contains(verts, a) || !slices.Contains(verts, b) {
			t.Fatalf("Ends(%d) = %d, %d", u, a, b)
		}
	}
}

// single wants that vertices are alone.
func single(t *testing.T, f *span.Forest, verts ...int) {
	t.Helper()
	for _, u := range verts {
		ends(t, f, u, 0, true)
	}
}

// distance wants a distance, both ways.
func distance(t *testing.T, f *span.Forest, u, v int, far int64, fails api.Errno) {
	t.Helper()
	for range 2 {
		told, e := f.Distance(u, v)
		got(t, "Distance", told, e, far, fails)
		u, v = v, u
	}
}

// noVertex wants ErrNotFound of every call that asks for a vertex.
func noVertex(t *testing.T, f *span.Forest, v int) {
	t.Helper()
	far, e := f.Span(v)
	got(t, "Span", far, e, 0, api.ErrNotFound)
	a, b, e := f.Ends(v)
	got(t, "Ends", [2]int{a, b}, e, [2]int{}, api.ErrNotFound)
	for _, x := range []int{v, 1, 0, api.MaxId} {
		distance(t, f, v, x, 0, api.ErrNotFound)
	}
}

func size(t *testing.T, f *span.Forest, verts, edges int) {
	t.Helper()
	if v, e := f.Len(); v != verts || e != edges {
		t.Fatalf("Len = %d, %d, want %d, %d", v, e, verts, edges)
	}
}

// alone is a forest of vertices that aren't joined.
func alone(t *testing.T, ids ...int) *span.Forest {
	t.Helper()
	f := span.New()
	for _, v := range ids {
		want(t, "AddV", f.AddV(v), api.OK)
	}
	return f
}

// example is the chapter's forest, ahead of its Cut, and a vertex more that is alone.
func example(t *testing.T) *span.Forest {
	t.Helper()
	f := alone(t, 1, 2, 3, 4, 5)
	link(t, f, 1, 1, 2, 3)
	link(t, f, 2, 2, 3, 4)
	link(t, f, 3, 2, 4, 5)
	return f
}

// unchanged wants the example.
func unchanged(t *testing.T, f *span.Forest) {
	t.Helper()
	size(t, f, 5, 3)
	tree(t, f, 9, 1, 2, 3, 4)
	single(t, f, 5)
	distance(t, f, 1, 4, 8, api.OK)
	distance(t, f, 1, 5, 0, api.ErrNoPath)
}

func TestExample(t *testing.T) {
	f := example(t)
	unchanged(t, f)
	a, b, e := f.Ends(1)
	got(t, "Ends", [2]int{a, b}, e, [2]int{3, 4}, api.OK)
	cut(t, f, 3)
	tree(t, f, 7, 1, 2, 3)
	single(t, f, 4, 5)
}

// P20.1: of a forest without vertices there is nothing to tell.
func TestNew(t *testing.T) {
	f := span.New()
	size(t, f, 0, 0)
	for _, v := range append(noIds, 1, api.MaxId) {
		noVertex(t, f, v)
	}
}

// P20.1: what AddV and DelV refuse, in the order in which it is named.
func TestVertices(t *testing.T) {
	f := example(t)
	for _, v := range noIds {
		want(t, "AddV", f.AddV(v), api.ErrArg)
		want(t, "DelV", f.DelV(v), api.ErrArg)
		noVertex(t, f, v)
	}
	for v := 1; v <= 5; v++ {
		want(t, "AddV", f.AddV(v), api.ErrExists)
	}
	for v := 1; v <= 4; v++ {
		want(t, "DelV", f.DelV(v), api.ErrInUse)
	}
	for _, v := range []int{6, 7, api.MaxId} {
		want(t, "DelV", f.DelV(v), api.ErrNotFound)
		noVertex(t, f, v)
	}
	unchanged(t, f)
	want(t, "DelV", f.DelV(5), api.OK)
	want(t, "DelV", f.DelV(5), api.ErrNotFound)
	noVertex(t, f, 5)
	want(t, "AddV", f.AddV(api.MaxId), api.OK)
	single(t, f, api.MaxId)
	cut(t, f, 1)
	want(t, "DelV", f.DelV(1), api.OK)
	want(t, "DelV", f.DelV(2), api.ErrInUse)
	tree(t, f, 9, 2, 3, 4)
	cut(t, f, 2)
	cut(t, f, 3)
	want(t, "DelV", f.DelV(2), api.OK)
	want(t, "AddV", f.AddV(2), api.OK) // what comes back is alone
	single(t, f, 2, 3, 4, api.MaxId)
	size(t, f, 4, 0)
}

// P20.1: what Link refuses, in the order in which it is named.
func TestWrongLinks(t *testing.T) {
	f := example(t)
	refused := func(id, u, v int, w int64, wanted api.Errno) {
		t.Helper()
		want(t, "Link", f.Link(api.Edge{Id: id, U: u, V: v, W: w}), wanted)
	}
	for _, x := range noIds {
		for _, y := range []int{1, 3, 9, x} {
			for _, w := range append(noWeights, 0, 1) {
				refused(x, y, 5, w, api.ErrArg)
				refused(3, x, y, w, api.ErrArg)
				refused(9, y, x, w, api.ErrArg)
			}
		}
	}
	for _, w := range noWeights {
		refused(9, 4, 5, w, api.ErrWeight)
		refused(9, 1, 2, w, api.ErrWeight)
		refused(9, 6, 7, w, api.ErrWeight)
		refused(3, 1, 5, w, api.ErrWeight)
	}
	for _, ends := range [][2]int{{1, 2}, {1, 5}, {5, 5}, {1, 6}, {6, 1}} {
		for id := 1; id <= 3; id++ {
			refused(id, ends[0], ends[1], 1, api.ErrExists)
		}
	}
	for _, ends := range [][2]int{{1, 6}, {6, 1}, {6, 6}, {6, 7}, {api.MaxId, 1}} {
		refused(9, ends[0], ends[1], 1, api.ErrNotFound)
	}
	for _, ends := range [][2]int{{1, 2}, {1, 3}, {4, 1}, {1, 1}, {5, 5}} {
		refused(9, ends[0], ends[1], 1, api.ErrLink)
	}
	unchanged(t, f)
	want(t, "DelV", f.DelV(5), api.OK) // nothing hangs on it
}

// P20.1: what Cut refuses, in the order in which it is named.
func TestWrongCuts(t *testing.T) {
	f := example(t)
	for _, x := range noIds {
		want(t, "Cut", f.Cut(x), api.ErrArg)
	}
	for _, id := range []int{4, 5, 9, api.MaxId} { // a vertex is no edge
		want(t, "Cut", f.Cut(id), api.ErrUnder)
	}
	unchanged(t, f)
	cut(t, f, 1)
	want(t, "Cut", f.Cut(1), api.ErrUnder)
	link(t, f, 1, 5, 1, 2) // an id that is free may be another edge's
	tree(t, f, 2, 1, 5)
	tree(t, f, 9, 2, 3, 4)
}

// P20.1: where all distances are nought the ends are two vertices of the tree yet.
func TestNoughts(t *testing.T) {
	f := alone(t, 1, 2, 3, 4, 5, 6)
	link(t, f, 1, 1, 2, 0)
	tree(t, f, 0, 1, 2)
	link(t, f, 2, 4, 3, 0)
	link(t, f, 3, 4, 5, 0)
	link(t, f, 4, 2, 4, 0)
	tree(t, f, 0, 1, 2, 3, 4, 5)
	single(t, f, 6)
	link(t, f, 5, 6, 2, 1)
	tree(t, f, 1, 1, 2, 3, 4, 5, 6)
	cut(t, f, 1)
	single(t, f, 1)
	cut(t, f, 5)
	single(t, f, 6)
	tree(t, f, 0, 2, 3, 4, 5)
}

// P20.1: the vertex where the farthest two's ways meet may be any, and the walk may begin anywhere.
func TestStar(t *testing.T) {
	const verts = 7
	for root := 1; root <= verts; root++ {
		for hub := 1; hub <= verts; hub++ {
			f := alone(t, 1, 2, 3, 4, 5, 6, 7)
			if root != hub {
				link(t, f, root, root, hub, int64(root))
			}
			for v := 1; v <= verts; v++ {
				if v != hub && v != root {
					link(t, f, v, v, hub, int64(v))
				}
			}
			far := int64(13)
			if hub == 7 {
				far = 11
			}
			if hub == 6 {
				far = 12
			}
			tree(t, f, far, 1, 2, 3, 4, 5, 6, 7)
		}
	}
}

// P20.1: as many vertices as may be, in one tree, of any form, with the greatest weights: no distance is too great to be told.
func TestMany(t *testing.T) {
	const most = api.MaxVerts
	for name, x := range map[string]struct {
		to   func(v int) int
		long int64
	}{
		"line": {func(v int) int { return v - 1 }, most - 1},
		"star": {func(v int) int { return 1 }, 2},
		"tree": {func(v int) int { return v / 2 }, 21},
	} {
		f := span.New(3, 1)
		for v := 1; v <= most; v++ {
			want(t, "AddV", f.AddV(v), api.OK)
		}
		for range 2 {
			want(t, "AddV", f.AddV(most+1), api.ErrMany)
			want(t, "AddV", f.AddV(1), api.ErrExists)
			want(t, "AddV", f.AddV(0), api.ErrArg)
		}
		for v := most; v > 1; v-- {
			link(t, f, v, x.to(v), v, api.MaxWeight)
		}
		size(t, f, most, most-1)
		for _, u := range []int{1, 2, most / 2, most} {
			ends(t, f, u, x.long*api.MaxWeight, false)
		}
		for v := 2; v <= most; v++ {
			cut(t, f, v)
		}
		for v := 1; v <= most; v++ {
			if far, e := f.Span(v); far != 0 || e != api.OK {
				t.Fatalf("%s: Span(%d) = %d, %d", name, v, far, e)
			}
		}
		single(t, f, 1, most)
		size(t, f, most, 0)
		want(t, "DelV", f.DelV(9), api.OK)
		want(t, "AddV", f.AddV(api.MaxId), api.OK)
		want(t, "AddV", f.AddV(9), api.ErrMany)
	}
}

// P20.1: distances are told to the last unit, however long the way is, and from whichever end it grows.
func TestExact(t *testing.T) {
	f := alone(t, 1)
	sum := int64(0)
	for v := 2; v <= api.MaxVerts; v++ {
		want(t, "AddV", f.AddV(v), api.OK)
		w := int64(api.MaxWeight - v%7)
		if v%2 == 0 {
			link(t, f, v, max(v-2, 1), v, w)
		} else {
			link(t, f, v, v, v-2, w)
		}
		sum += w
		ends(t, f, v/2, sum, false)
		distance(t, f, v, v-1, sum, api.OK)
	}
}

// P20.1: however often something comes and goes, there is room for it, and the rest stays.
func TestComingAndGoing(t *testing.T) {
	f := example(t)
	for i := range 20000 {
		want(t, "AddV", f.AddV(9), api.OK)
		link(t, f, 8, 9, 1+i%4, 2)
		link(t, f, 9, 5, 9, 6)
		far, e := f.Span(5)
		got(t, "Span", far, e, []int64{16, 13, 17, 17}[i%4], api.OK)
		want(t, "DelV", f.DelV(9), api.ErrInUse)
		cut(t, f, 8+i%2)
		cut(t, f, 9-i%2)
		want(t, "DelV", f.DelV(9), api.OK)
	}
	for range api.MaxNodes {
		want(t, "AddV", f.AddV(9), api.OK)
		want(t, "DelV", f.DelV(9), api.OK)
	}
	unchanged(t, f)
	want(t, "AddV", f.AddV(9), api.OK)
	link(t, f, 9, 9, 5, 2)
	tree(t, f, 2, 5, 9)
}

// What is handed in is neither changed nor kept.
func TestSeedsAreTheirOwners(t *testing.T) {
	seeds := []int{5, 1, 4, 2, 3}
	f := span.New(seeds[:3]...)
	if !slices.Equal(seeds, []int{5, 1, 4, 2, 3}) {
		t.Fatalf("New has changed its seeds: %v", seeds)
	}
	for i := range seeds {
		seeds[i] = 99
	}
	for v := 1; v <= 5; v++ {
		want(t, "AddV", f.AddV(v), api.OK)
	}
	link(t, f, 3, 4, 2, 5)
	link(t, f, 2, 3, 2, 4)
	link(t, f, 1, 2, 1, 3)
	unchanged(t, f)
}

// P20.3: two forests share nothing.
func TestTwoForests(t *testing.T) {
	f, g := example(t), alone(t, 1, 2, 3)
	link(t, g, 3, 1, 3, 2)
	unchanged(t, f)
	tree(t, g, 2, 1, 3)
	cut(t, f, 3)
	tree(t, g, 2, 1, 3)
	want(t, "DelV", g.DelV(2), api.OK)
	cut(t, g, 3)
	tree(t, f, 7, 1, 2, 3)
	noVertex(t, g, 4)
	size(t, f, 5, 2)
	size(t, g, 2, 0)
}
