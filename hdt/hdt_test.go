package hdt_test

import (
	"math"
	"slices"
	"testing"

	"skein/api"
	"skein/hdt"
)

// noIds are numbers that are no ids.
var noIds = []int{0, -1, math.MinInt, api.MaxId + 1, 1<<32 + 1, math.MaxInt}

// want holds an error against the one that is wanted.
func want(t *testing.T, what string, got, want api.Errno) {
	t.Helper()
	if got != want {
		t.Fatalf("%s = %d, want %d", what, got, want)
	}
}

// got holds an answer against the one that is wanted, and its error.
func got[A comparable](t *testing.T, what string, x A, e api.Errno, wanted A, fails api.Errno) {
	t.Helper()
	if x != wanted || e != fails {
		t.Fatalf("%s = %v, %d, want %v, %d", what, x, e, wanted, fails)
	}
}

func add(t *testing.T, g *hdt.Graph, id, u, v int) {
	t.Helper()
	want(t, "AddE", g.AddE(id, u, v), api.OK)
}

func del(t *testing.T, g *hdt.Graph, id int) {
	t.Helper()
	want(t, "DelE", g.DelE(id), api.OK)
}

// lists wants all lists of joined vertices, whatever is asked about them.
func lists(t *testing.T, g *hdt.Graph, wanted ...[]int) {
	t.Helper()
	if n := g.Trees(); n != len(wanted) {
		t.Fatalf("Trees = %d, want %d", n, len(wanted))
	}
	all := 0
	for _, list := range wanted {
		all += len(list)
		for _, u := range list {
			inList(t, g, u, list, wanted)
		}
	}
	if n, _ := g.Len(); n != all {
		t.Fatalf("Len = %d, want %d", n, all)
	}
}

// inList wants that a vertex is joined to those of its list, and to no other one.
func inList(t *testing.T, g *hdt.Graph, u int, list []int, lists [][]int) {
	t.Helper()
	size, e := g.Size(u)
	got(t, "Size", size, e, len(list), api.OK)
	told, e := g.Verts(u)
	if e != api.OK || !slices.Equal(told, list) {
		t.Fatalf("Verts(%d) = %v, %d, want %v", u, told, e, list)
	}
	for _, other := range lists {
		for _, v := range other {
			joined, e := g.Joined(u, v)
			got(t, "Joined", joined, e, slices.Contains(list, v), api.OK)
		}
	}
}

// noVertex wants ErrNotFound of every call that asks for a vertex.
func noVertex(t *testing.T, g *hdt.Graph, v int) {
	t.Helper()
	size, e := g.Size(v)
	got(t, "Size", size, e, 0, api.ErrNotFound)
	list, e := g.Verts(v)
	got(t, "Verts", len(list), e, 0, api.ErrNotFound)
	for _, x := range []int{v, 1, 0, api.MaxId} {
		joined, e := g.Joined(v, x)
		got(t, "Joined", joined, e, false, api.ErrNotFound)
		joined, e = g.Joined(x, v)
		got(t, "Joined", joined, e, false, api.ErrNotFound)
	}
}

func size(t *testing.T, g *hdt.Graph, verts, edges int) {
	t.Helper()
	if v, e := g.Len(); v != verts || e != edges {
		t.Fatalf("Len = %d, %d, want %d, %d", v, e, verts, edges)
	}
}

// alone is a graph of vertices that aren't joined.
func alone(t *testing.T, ids ...int) *hdt.Graph {
	t.Helper()
	g := hdt.New()
	for _, v := range ids {
		want(t, "AddV", g.AddV(v), api.OK)
	}
	return g
}

// example is the chapter's graph, ahead of its DelE, and a vertex more that is alone.
func example(t *testing.T) *hdt.Graph {
	t.Helper()
	g := alone(t, 1, 2, 3, 4)
	add(t, g, 7, 1, 2)
	add(t, g, 8, 2, 3)
	add(t, g, 9, 1, 3)
	return g
}

func TestExample(t *testing.T) {
	g := alone(t, 1, 2, 3)
	add(t, g, 7, 1, 2)
	add(t, g, 8, 2, 3)
	add(t, g, 9, 1, 3)
	del(t, g, 8)
	lists(t, g, []int{1, 2, 3})
	del(t, g, 9)
	lists(t, g, []int{1, 2}, []int{3})
	size(t, g, 3, 1)
}

// P18.1: of a graph without vertices there is nothing to tell.
func TestNew(t *testing.T) {
	g := hdt.New()
	lists(t, g)
	size(t, g, 0, 0)
	for _, v := range append(noIds, 1, api.MaxId) {
		noVertex(t, g, v)
	}
}

// P18.1: what AddV and DelV refuse, in the order in which it is named.
func TestVertices(t *testing.T) {
	g := example(t)
	for _, v := range noIds {
		want(t, "AddV", g.AddV(v), api.ErrArg)
		want(t, "DelV", g.DelV(v), api.ErrArg)
		noVertex(t, g, v)
	}
	for v := 1; v <= 4; v++ {
		want(t, "AddV", g.AddV(v), api.ErrExists)
	}
	for v := 1; v <= 3; v++ {
		want(t, "DelV", g.DelV(v), api.ErrInUse)
	}
	for _, v := range []int{5, 7, 8, 9, api.MaxId} { // an edge is no vertex
		want(t, "DelV", g.DelV(v), api.ErrNotFound)
		noVertex(t, g, v)
	}
	size(t, g, 4, 3)
	lists(t, g, []int{1, 2, 3}, []int{4})
	want(t, "DelV", g.DelV(4), api.OK)
	want(t, "DelV", g.DelV(4), api.ErrNotFound)
	noVertex(t, g, 4)
	want(t, "AddV", g.AddV(api.MaxId), api.OK)
	lists(t, g, []int{1, 2, 3}, []int{api.MaxId})
	del(t, g, 7)
	want(t, "DelV", g.DelV(1), api.ErrInUse)
	del(t, g, 9)
	want(t, "DelV", g.DelV(1), api.OK)
	want(t, "DelV", g.DelV(2), api.ErrInUse)
	del(t, g, 8)
	want(t, "DelV", g.DelV(2), api.OK)
	lists(t, g, []int{3}, []int{api.MaxId})
	want(t, "AddV", g.AddV(2), api.OK) // what comes back is alone
	lists(t, g, []int{2}, []int{3}, []int{api.MaxId})
	size(t, g, 3, 0)
}

// P18.1: what AddE refuses, in the order in which it is named.
func TestWrongAdds(t *testing.T) {
	g := example(t)
	for _, x := range noIds {
		for _, y := range []int{1, 7, 10, x} {
			want(t, "AddE", g.AddE(x, y, 4), api.ErrArg)
			want(t, "AddE", g.AddE(7, x, y), api.ErrArg)
			want(t, "AddE", g.AddE(10, y, x), api.ErrArg)
		}
	}
	for _, ends := range [][2]int{{1, 2}, {1, 4}, {4, 4}, {1, 5}, {5, 1}, {5, 6}} {
		for id := 7; id <= 9; id++ {
			want(t, "AddE", g.AddE(id, ends[0], ends[1]), api.ErrExists)
		}
	}
	for _, ends := range [][2]int{{1, 5}, {5, 1}, {5, 5}, {5, 6}, {api.MaxId, 1}, {7, 8}} {
		want(t, "AddE", g.AddE(10, ends[0], ends[1]), api.ErrNotFound)
	}
	size(t, g, 4, 3)
	lists(t, g, []int{1, 2, 3}, []int{4})
	want(t, "DelV", g.DelV(4), api.OK) // nothing hangs on it
}

// P18.1: what DelE refuses, in the order in which it is named.
func TestWrongDels(t *testing.T) {
	g := example(t)
	for _, x := range noIds {
		want(t, "DelE", g.DelE(x), api.ErrArg)
	}
	for _, id := range []int{1, 2, 10, api.MaxId} { // a vertex is no edge
		want(t, "DelE", g.DelE(id), api.ErrUnder)
	}
	size(t, g, 4, 3)
	lists(t, g, []int{1, 2, 3}, []int{4})
	for id := 7; id <= 9; id++ {
		del(t, g, id)
		want(t, "DelE", g.DelE(id), api.ErrUnder)
		size(t, g, 4, 9-id)
	}
	lists(t, g, []int{1}, []int{2}, []int{3}, []int{4})
	add(t, g, 7, 4, 3) // an id that is free may be another edge's
	lists(t, g, []int{1}, []int{2}, []int{3, 4})
}

// P18.1: an edge from a vertex to itself joins nothing, but hangs on it.
func TestToItself(t *testing.T) {
	g := alone(t, 1, 2, 3)
	add(t, g, 1, 1, 1)
	add(t, g, 2, 1, 1)
	add(t, g, api.MaxId, 2, 2)
	lists(t, g, []int{1}, []int{2}, []int{3})
	add(t, g, 3, 1, 2)
	lists(t, g, []int{1, 2}, []int{3})
	size(t, g, 3, 4)
	for range 30 { // however often they are gone through
		del(t, g, 3)
		lists(t, g, []int{1}, []int{2}, []int{3})
		want(t, "DelV", g.DelV(1), api.ErrInUse)
		want(t, "DelV", g.DelV(2), api.ErrInUse)
		want(t, "AddE", g.AddE(1, 2, 3), api.ErrExists)
		add(t, g, 3, 2, 1)
		lists(t, g, []int{1, 2}, []int{3})
	}
	del(t, g, 3)
	del(t, g, 1)
	want(t, "DelV", g.DelV(1), api.ErrInUse)
	del(t, g, 2)
	want(t, "DelE", g.DelE(2), api.ErrUnder)
	want(t, "DelV", g.DelV(1), api.OK)
	want(t, "DelV", g.DelV(2), api.ErrInUse)
	del(t, g, api.MaxId)
	want(t, "DelV", g.DelV(2), api.OK)
	lists(t, g, []int{3})
	size(t, g, 1, 0)
}

// P18.1: of several edges between two each one joins them.
func TestSeveralBetweenTwo(t *testing.T) {
	for _, order := range [][]int{{1, 2, 3, 4}, {4, 3, 2, 1}, {2, 4, 1, 3}, {3, 1, 4, 2}} {
		g := alone(t, 1, 2)
		for id := 1; id <= 4; id++ {
			add(t, g, id, 1+id%2, 2-id%2)
		}
		for _, id := range order {
			lists(t, g, []int{1, 2})
			want(t, "DelV", g.DelV(1), api.ErrInUse)
			del(t, g, id)
		}
		lists(t, g, []int{1}, []int{2})
		size(t, g, 2, 0)
		want(t, "DelV", g.DelV(1), api.OK)
	}
}

// full is a graph with as many vertices as may be, and as many edges, of some form.
func full(t *testing.T, ends func(id int) (int, int)) *hdt.Graph {
	t.Helper()
	g := hdt.New(3, 1, 2)
	for v := 1; v <= api.MaxVerts; v++ {
		want(t, "AddV", g.AddV(v), api.OK)
	}
	for id := 1; id <= api.MaxEdges; id++ {
		u, v := ends(id)
		add(t, g, id, u, v)
	}
	return g
}

// P18.1: as many vertices and edges as may be.
func TestMany(t *testing.T) {
	const most = api.MaxVerts
	g := full(t, func(id int) (int, int) { return id, id%most + 1 }) // a ring
	for range 2 {
		want(t, "AddV", g.AddV(most+1), api.ErrMany)
		want(t, "AddV", g.AddV(1), api.ErrExists)
		want(t, "AddV", g.AddV(0), api.ErrArg)
		want(t, "AddE", g.AddE(api.MaxEdges+1, 1, 2), api.ErrMany)
		want(t, "AddE", g.AddE(api.MaxEdges+1, 1, 1), api.ErrMany)
		want(t, "AddE", g.AddE(api.MaxEdges+1, 1, most+1), api.ErrNotFound)
		want(t, "AddE", g.AddE(1, 1, most+1), api.ErrExists)
		want(t, "AddE", g.AddE(1, 0, 1), api.ErrArg)
	}
	size(t, g, most, api.MaxEdges)
	all, e := g.Verts(77)
	if e != api.OK || len(all) != most || all[0] != 1 || all[most-1] != most {
		t.Fatalf("%d vertices", len(all))
	}
	for i := range most { // the first one parts nothing, each other one parts a list
		del(t, g, (i*997)%most+1)
		if g.Trees() != i+1 {
			t.Fatalf("Trees = %d behind %d", g.Trees(), i)
		}
	}
	n, e := g.Size(5)
	got(t, "Size", n, e, 1, api.OK)
	want(t, "DelV", g.DelV(9), api.OK)
	want(t, "AddV", g.AddV(api.MaxId), api.OK)
	want(t, "AddV", g.AddV(9), api.ErrMany)
	add(t, g, api.MaxId, api.MaxId, 1)
	size(t, g, most, 1)
}

// P18.1: as many edges as may be on few vertices.
func TestManyOnFew(t *testing.T) {
	g := full(t, func(id int) (int, int) { return 1 + id%3, 1 + id/3%3 })
	few := []int{1, 2, 3}
	trees := g.Trees()
	if trees != api.MaxVerts-2 {
		t.Fatalf("Trees = %d", trees)
	}
	for id := 1; id <= api.MaxEdges-9; id++ { // of each nine that follow one another each two ends have one
		del(t, g, id)
		if n := g.Trees(); n != trees {
			t.Fatalf("Trees = %d behind edge %d", n, id)
		}
	}
	told, e := g.Verts(2)
	if e != api.OK || !slices.Equal(told, few) {
		t.Fatalf("Verts = %v, %d", told, e)
	}
	for id := api.MaxEdges - 8; id <= api.MaxEdges; id++ {
		del(t, g, id)
	}
	if n := g.Trees(); n != api.MaxVerts {
		t.Fatalf("Trees = %d", n)
	}
}

// P18.1: however often something comes and goes, there is room for it, and the rest stays.
func TestComingAndGoing(t *testing.T) {
	g := example(t)
	for i := range 30000 {
		ok := g.AddV(9) == api.OK && g.AddE(1, 9, 4) == api.OK && g.AddE(2, 9, 1) == api.OK && g.AddE(3, 4, 1+i%3) == api.OK
		n, e := g.Size(4)
		ok = ok && n == 5 && e == api.OK && g.DelE(1+i%2) == api.OK && g.Trees() == 1
		ok = ok && g.DelE(3) == api.OK && g.Trees() == 2 && g.DelE(2-i%2) == api.OK && g.DelV(9) == api.OK
		if !ok {
			t.Fatalf("round %d", i)
		}
	}
	lists(t, g, []int{1, 2, 3}, []int{4})
	size(t, g, 4, 3)
}

// P18.3, and what is handed in is neither changed nor kept.
func TestArgumentsAndAnswersAreTheirOwners(t *testing.T) {
	seeds := []int{5, 1, 4, 2, 3}
	g := hdt.New(seeds[:3]...)
	if !slices.Equal(seeds, []int{5, 1, 4, 2, 3}) {
		t.Fatalf("New has changed its seeds: %v", seeds)
	}
	overwrite(seeds)
	for v := 1; v <= 3; v++ {
		want(t, "AddV", g.AddV(v), api.OK)
	}
	add(t, g, 7, 1, 2)
	add(t, g, 8, 1, 3)
	one, _ := g.Verts(1)
	other, _ := g.Verts(1)
	overwrite(one)
	if !slices.Equal(other, []int{1, 2, 3}) {
		t.Fatalf("two answers share memory: %v", other)
	}
	overwrite(other)
	lists(t, g, []int{1, 2, 3})
}

// overwrite writes over a list and its spare room.
func overwrite(list []int) {
	list = list[:cap(list)]
	for i := range list {
		list[i] = 99
	}
}

// P18.3: two graphs share nothing.
func TestTwoGraphs(t *testing.T) {
	g, h := example(t), alone(t, 1, 2, 3)
	add(t, h, 8, 1, 3)
	add(t, h, 1, 1, 1)
	lists(t, g, []int{1, 2, 3}, []int{4})
	lists(t, h, []int{1, 3}, []int{2})
	del(t, g, 8)
	del(t, g, 9)
	lists(t, g, []int{1, 2}, []int{3}, []int{4})
	lists(t, h, []int{1, 3}, []int{2})
	want(t, "DelV", h.DelV(2), api.OK)
	want(t, "DelE", h.DelE(7), api.ErrUnder)
	want(t, "DelE", g.DelE(1), api.ErrUnder)
	lists(t, g, []int{1, 2}, []int{3}, []int{4})
	size(t, g, 4, 1)
	size(t, h, 2, 2)
}
