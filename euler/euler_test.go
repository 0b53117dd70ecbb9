package euler_test

import (
	"math"
	"slices"
	"testing"

	"skein/api"
	"skein/euler"
)

// noIds are numbers that are no ids.
var noIds = []int{0, -1, math.MinInt, api.MaxId + 1, 1<<32 + 1, math.MaxInt}

// want holds an error against the one that is wanted.
func want(t *testing.T, what string, got, want api.Errno) {
	t.Helper()
	if got != want {
		t.Fatalf("%s = %d, want %d", what, got, want)
	}
}

// got holds an answer against the one that is wanted, and its error.
func got[A comparable](t *testing.T, what string, x A, e api.Errno, wanted A, fails api.Errno) {
	t.Helper()
	if x != wanted || e != fails {
		t.Fatalf("%s = %v, %d, want %v, %d", what, x, e, wanted, fails)
	}
}

// list holds a list against the one that is wanted.
func list(t *testing.T, what string, ids []int, e api.Errno, wanted ...int) {
	t.Helper()
	if e != api.OK || !slices.Equal(ids, wanted) {
		t.Fatalf("%s = %v, %d, want %v", what, ids, e, wanted)
	}
}

// verts holds what is told of a tree's vertices against those that are wanted.
func verts(t *testing.T, f *euler.Forest, wanted ...int) {
	t.Helper()
	for _, u := range wanted {
		ids, e := f.Verts(u)
		list(t, "Verts", ids, e, wanted...)
		size, e := f.Size(u)
		got(t, "Size", size, e, len(wanted), api.OK)
		for _, v := range wanted {
			joined, e := f.Joined(u, v)
			got(t, "Joined", joined, e, true, api.OK)
		}
	}
}

// edges holds what is told of the edges of a vertex's tree against those that are wanted.
func edges(t *testing.T, f *euler.Forest, u int, wanted ...int) {
	t.Helper()
	ids, e := f.Edges(u)
	list(t, "Edges", ids, e, wanted...)
	for _, id := range wanted {
		if !f.Has(id) {
			t.Fatalf("Has(%d) is false", id)
		}
	}
}

func link(t *testing.T, f *euler.Forest, id, u, v int) {
	t.Helper()
	want(t, "Link", f.Link(id, u, v), api.OK)
}

func cut(t *testing.T, f *euler.Forest, id int) {
	t.Helper()
	want(t, "Cut", f.Cut(id), api.OK)
}

// alone is a forest of vertices that aren't joined.
func alone(t *testing.T, ids ...int) *euler.Forest {
	t.Helper()
	f := euler.New()
	for _, v := range ids {
		want(t, "AddV", f.AddV(v), api.OK)
	}
	return f
}

// example is the chapter's forest, ahead of its Cut.
func example(t *testing.T) *euler.Forest {
	t.Helper()
	f := alone(t, 1, 2, 3, 4)
	link(t, f, 7, 1, 2)
	link(t, f, 8, 2, 3)
	return f
}

func TestExample(t *testing.T) {
	f := example(t)
	verts(t, f, 1, 2, 3)
	edges(t, f, 1, 7, 8)
	verts(t, f, 4)
	want(t, "Link", f.Link(9, 1, 3), api.ErrLink)
	cut(t, f, 7)
	verts(t, f, 2, 3)
	verts(t, f, 1)
	edges(t, f, 3, 8)
	edges(t, f, 1)
}

// P16.1: of a forest without vertices there is nothing to tell.
func TestNew(t *testing.T) {
	f := euler.New(1, 2, 3)
	if f.Len() != 0 || f.Has(1) {
		t.Errorf("Len %d, Has(1) %v", f.Len(), f.Has(1))
	}
	for _, v := range append(noIds, 1, api.MaxId) {
		noVertex(t, f, v)
		if f.Has(v) {
			t.Errorf("Has(%d)", v)
		}
		want(t, "MarkE", f.MarkE(v, true), api.ErrUnder)
	}
}

// noVertex wants ErrNotFound of every call that asks for a vertex.
func noVertex(t *testing.T, f *euler.Forest, v int) {
	t.Helper()
	for _, u := range []int{v, 1, 0, api.MaxId} {
		joined, e := f.Joined(v, u)
		got(t, "Joined", joined, e, false, api.ErrNotFound)
		joined, e = f.Joined(u, v)
		got(t, "Joined", joined, e, false, api.ErrNotFound)
	}
	for _, ask := range []func(int) (int, api.Errno){f.Size, f.SomeV, f.SomeE} {
		n, e := ask(v)
		got(t, "Size, SomeV, SomeE", n, e, 0, api.ErrNotFound)
	}
	for _, ask := range []func(int) ([]int, api.Errno){f.Verts, f.Edges} {
		if ids, e := ask(v); len(ids) > 0 || e != api.ErrNotFound {
			t.Fatalf("Verts, Edges = %v, %d", ids, e)
		}
	}
	want(t, "MarkV", f.MarkV(v, true), api.ErrNotFound)
	want(t, "MarkV", f.MarkV(v, false), api.ErrNotFound)
}

// P16.1: what AddV and DelV refuse, in the order in which it is named.
func TestVertices(t *testing.T) {
	f := example(t)
	for _, v := range noIds {
		want(t, "AddV", f.AddV(v), api.ErrArg)
		want(t, "DelV", f.DelV(v), api.ErrArg)
		noVertex(t, f, v)
	}
	for v := 1; v <= 4; v++ {
		want(t, "AddV", f.AddV(v), api.ErrExists)
	}
	for v := 1; v <= 3; v++ {
		want(t, "DelV", f.DelV(v), api.ErrInUse)
	}
	for _, v := range []int{5, 7, 8, api.MaxId} { // an edge is no vertex
		want(t, "DelV", f.DelV(v), api.ErrNotFound)
		noVertex(t, f, v)
	}
	if f.Len() != 4 {
		t.Errorf("Len = %d", f.Len())
	}
	verts(t, f, 1, 2, 3)
	want(t, "DelV", f.DelV(4), api.OK)
	want(t, "DelV", f.DelV(4), api.ErrNotFound)
	noVertex(t, f, 4)
	want(t, "AddV", f.AddV(api.MaxId), api.OK)
	verts(t, f, api.MaxId)
	cut(t, f, 7)
	want(t, "DelV", f.DelV(1), api.OK)
	want(t, "DelV", f.DelV(2), api.ErrInUse)
	cut(t, f, 8)
	want(t, "DelV", f.DelV(2), api.OK)
	want(t, "DelV", f.DelV(3), api.OK)
	if f.Len() != 1 {
		t.Errorf("Len = %d", f.Len())
	}
}

// P16.1: what Link and Cut refuse, in the order in which it is named.
func TestEdges(t *testing.T) {
	f := example(t)
	for _, x := range noIds {
		for _, y := range []int{1, 7, 9, x} {
			want(t, "Link", f.Link(x, y, 4), api.ErrArg)
			want(t, "Link", f.Link(7, x, y), api.ErrArg)
			want(t, "Link", f.Link(9, y, x), api.ErrArg)
		}
		want(t, "Cut", f.Cut(x), api.ErrArg)
		want(t, "MarkE", f.MarkE(x, true), api.ErrUnder)
		if f.Has(x) {
			t.Errorf("Has(%d)", x)
		}
	}
	for _, ends := range [][2]int{{1, 2}, {1, 4}, {4, 4}, {1, 5}, {5, 1}, {5, 6}} {
		want(t, "Link", f.Link(7, ends[0], ends[1]), api.ErrExists)
	}
	for _, ends := range [][2]int{{1, 5}, {5, 1}, {5, 5}, {5, 6}, {api.MaxId, 1}, {7, 8}} {
		want(t, "Link", f.Link(9, ends[0], ends[1]), api.ErrNotFound)
	}
	for _, ends := range [][2]int{{1, 1}, {4, 4}, {1, 2}, {2, 1}, {1, 3}, {3, 1}} {
		want(t, "Link", f.Link(9, ends[0], ends[1]), api.ErrLink)
	}
	for _, id := range []int{1, 2, 9, api.MaxId} { // a vertex is no edge
		want(t, "Cut", f.Cut(id), api.ErrUnder)
		want(t, "MarkE", f.MarkE(id, true), api.ErrUnder)
		want(t, "MarkE", f.MarkE(id, false), api.ErrUnder)
		if f.Has(id) {
			t.Errorf("Has(%d)", id)
		}
	}
	verts(t, f, 1, 2, 3)
	verts(t, f, 4)
	edges(t, f, 2, 7, 8)
	edges(t, f, 4)
	link(t, f, api.MaxId, 4, 1)
	verts(t, f, 1, 2, 3, 4)
	edges(t, f, 4, 7, 8, api.MaxId)
	cut(t, f, 8)
	want(t, "Cut", f.Cut(8), api.ErrUnder)
	verts(t, f, 1, 2, 4)
	edges(t, f, 1, 7, api.MaxId)
	link(t, f, 1, 3, 2) // ids of edges are those of vertices, too
	edges(t, f, 3, 1, 7, api.MaxId)
}

// P16.1: marks.
func TestMarks(t *testing.T) {
	f := example(t)
	some := func(u, v, edge int) {
		t.Helper()
		x, e := f.SomeV(u)
		got(t, "SomeV", x, e, v, api.OK)
		x, e = f.SomeE(u)
		got(t, "SomeE", x, e, edge, api.OK)
	}
	some(1, 0, 0)
	want(t, "MarkV", f.MarkV(3, true), api.OK)
	want(t, "MarkE", f.MarkE(7, true), api.OK)
	some(1, 3, 7)
	some(3, 3, 7)
	some(4, 0, 0)
	for range 2 { // what is marked may be marked again
		want(t, "MarkV", f.MarkV(3, true), api.OK)
		want(t, "MarkE", f.MarkE(7, true), api.OK)
	}
	verts(t, f, 1, 2, 3)
	edges(t, f, 1, 7, 8)
	want(t, "MarkV", f.MarkV(3, false), api.OK)
	some(2, 0, 7)
	want(t, "MarkE", f.MarkE(7, false), api.OK)
	some(2, 0, 0)
	want(t, "MarkE", f.MarkE(7, false), api.OK)
	want(t, "MarkV", f.MarkV(3, false), api.OK)
	some(2, 0, 0)
	want(t, "MarkV", f.MarkV(1, true), api.OK)
	want(t, "MarkE", f.MarkE(8, true), api.OK)
	want(t, "MarkV", f.MarkV(4, true), api.OK)
	cut(t, f, 7)
	some(1, 1, 0)
	some(2, 0, 8)
	some(4, 4, 0)
	link(t, f, 7, 2, 4)
	some(3, 4, 8)
	verts(t, f, 2, 3, 4)
}

// P16.1: what comes isn't marked, though it had a mark when it went.
func TestNoMarkComes(t *testing.T) {
	f := alone(t, 1, 2)
	for id := 1; id <= 3; id++ {
		link(t, f, id, 1, 2)
		edge, e := f.SomeE(1)
		got(t, "SomeE", edge, e, 0, api.OK)
		want(t, "MarkE", f.MarkE(id, true), api.OK)
		cut(t, f, id)
		edge, e = f.SomeE(1)
		got(t, "SomeE", edge, e, 0, api.OK)
		link(t, f, id, 2, 1)
		edge, e = f.SomeE(1)
		got(t, "SomeE", edge, e, 0, api.OK)
		want(t, "MarkE", f.MarkE(id, true), api.OK)
		cut(t, f, id)
		for range 2 {
			want(t, "AddV", f.AddV(9), api.OK)
			v, e := f.SomeV(9)
			got(t, "SomeV", v, e, 0, api.OK)
			v, e = f.SomeE(9)
			got(t, "SomeE", v, e, 0, api.OK)
			want(t, "MarkV", f.MarkV(9, true), api.OK)
			want(t, "DelV", f.DelV(9), api.OK)
		}
	}
}

// P16.1: as many vertices as may be, in one tree, of any form.
func TestMany(t *testing.T) {
	for name, to := range map[string]func(v int) int{
		"line": func(v int) int { return v - 1 },
		"star": func(v int) int { return 1 },
		"tree": func(v int) int { return v / 2 },
	} {
		f := euler.New()
		for v := 1; v <= api.MaxVerts; v++ {
			want(t, "AddV", f.AddV(v), api.OK)
		}
		for range 2 {
			want(t, "AddV", f.AddV(api.MaxVerts+1), api.ErrMany)
			want(t, "AddV", f.AddV(1), api.ErrExists)
			want(t, "AddV", f.AddV(0), api.ErrArg)
		}
		for v := 2; v <= api.MaxVerts; v++ {
			link(t, f, v, v, to(v))
		}
		size, e := f.Size(77)
		got(t, name, size, e, api.MaxVerts, api.OK)
		all, e := f.Verts(5)
		if e != api.OK || len(all) != api.MaxVerts || all[0] != 1 || all[api.MaxVerts-1] != api.MaxVerts {
			t.Fatalf("%s: %d vertices", name, len(all))
		}
		all, e = f.Edges(api.MaxVerts)
		if e != api.OK || len(all) != api.MaxVerts-1 || all[0] != 2 || all[api.MaxVerts-2] != api.MaxVerts {
			t.Fatalf("%s: %d edges", name, len(all))
		}
		cut(t, f, 1000)
		joined, e := f.Joined(1000, 1)
		got(t, name, joined, e, false, api.OK)
		for v := 2; v <= api.MaxVerts; v++ {
			if v != 1000 {
				cut(t, f, v)
			}
		}
		for v := 1; v <= api.MaxVerts; v++ {
			verts(t, f, v)
		}
		want(t, "DelV", f.DelV(9), api.OK)
		want(t, "AddV", f.AddV(api.MaxId), api.OK)
		want(t, "AddV", f.AddV(9), api.ErrMany)
	}
}

// P16.1: however often something comes and goes, there is room for it.
func TestComingAndGoing(t *testing.T) {
	f := alone(t, 1, 2, 3)
	link(t, f, 1, 1, 2)
	for i := range 2 * api.MaxNodes {
		if f.Link(9, 2, 3) != api.OK || f.AddV(9) != api.OK || f.Link(8, 9, 1) != api.OK {
			t.Fatalf("round %d: Link, AddV", i)
		}
		if n, e := f.Size(3); n != 4 || e != api.OK {
			t.Fatalf("round %d: Size = %d, %d", i, n, e)
		}
		if f.Cut(9) != api.OK || f.Cut(8) != api.OK || f.DelV(9) != api.OK {
			t.Fatalf("round %d: Cut, DelV", i)
		}
	}
	verts(t, f, 1, 2)
	verts(t, f, 3)
	edges(t, f, 2, 1)
	if f.Len() != 3 {
		t.Errorf("Len = %d", f.Len())
	}
}

// P16.3, and what is handed in is neither changed nor kept.
func TestArgumentsAndAnswersAreTheirOwners(t *testing.T) {
	seeds := []int{5, 1, 4, 2, 3}
	f := euler.New(seeds[:3]...)
	if !slices.Equal(seeds, []int{5, 1, 4, 2, 3}) {
		t.Fatalf("New has changed its seeds: %v", seeds)
	}
	overwrite(seeds)
	for v := 1; v <= 3; v++ {
		want(t, "AddV", f.AddV(v), api.OK)
	}
	link(t, f, 7, 1, 2)
	link(t, f, 8, 1, 3)
	g := alone(t, 1, 2, 3)
	link(t, g, 8, 2, 3)
	want(t, "MarkV", g.MarkV(3, true), api.OK)
	want(t, "MarkE", g.MarkE(8, true), api.OK)
	cut(t, f, 8)
	link(t, f, 9, 2, 3)
	v, e := f.SomeV(3)
	got(t, "SomeV", v, e, 0, api.OK)
	edge, e := f.SomeE(3)
	got(t, "SomeE", edge, e, 0, api.OK)
	verts(t, f, 1, 2, 3)
	verts(t, g, 2, 3)
	for _, ask := range []func(int) ([]int, api.Errno){f.Verts, f.Edges} {
		one, _ := ask(1)
		other, _ := ask(1)
		before := slices.Clone(other)
		overwrite(one)
		if !slices.Equal(other, before) {
			t.Fatalf("two answers share memory: %v", other)
		}
		overwrite(other)
	}
	verts(t, f, 1, 2, 3)
	edges(t, f, 1, 7, 9)
	edges(t, g, 3, 8)
	verts(t, g, 1)
}

// overwrite writes over a list and its spare room.
func overwrite(list []int) {
	list = list[:cap(list)]
	for i := range list {
		list[i] = 99
	}
}
