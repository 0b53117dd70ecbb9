package view_test

import (
	"bytes"
	"math"
	"slices"
	"strings"
	"testing"

	"skein/api"
	"skein/graph"
	"skein/plain"
	"skein/view"
)

var less = math.Copysign(0, -1) // nought with a minus sign

func vertex(id int) api.Ref { return api.Ref{Id: id} }
func edge(id int) api.Ref   { return api.Ref{Edge: true, Id: id} }

func addV(id int) api.Write { return api.Write{Kind: api.WAddV, Id: id} }
func delV(id int) api.Write { return api.Write{Kind: api.WDelV, Id: id} }
func delE(id int) api.Write { return api.Write{Kind: api.WDelE, Id: id} }
func addE(id, u, v int, w int64) api.Write {
	return api.Write{Kind: api.WAddE, Id: id, U: u, V: v, W: w}
}
func prop(of api.Ref, name string, v api.Value) api.Write {
	return api.Write{Kind: api.WProp, Of: of, Name: name, Val: v}
}
func unset(of api.Ref, name string) api.Write {
	return api.Write{Kind: api.WUnset, Of: of, Name: name}
}

func number(n int64) api.Value        { return api.Value{Kind: api.VInt, Int: n} }
func gaussian(c complex128) api.Value { return api.Value{Kind: api.VGauss, C: c} }
func text(s string) api.Value         { return api.Value{Kind: api.VText, Text: []byte(s)} }

// doer is a graph or a view.
type doer interface{ Do(w api.Write) api.Errno }

// do: these writes go well.
func do(t *testing.T, g doer, ws ...api.Write) {
	t.Helper()
	for _, w := range ws {
		if e := g.Do(w); e != api.OK {
			t.Fatalf("Do(%+v) = %d", w, e)
		}
	}
}

func made(t *testing.T, ws ...api.Write) *graph.Graph {
	t.Helper()
	g := graph.New()
	do(t, g, ws...)
	return g
}

// example is a graph with a bit of everything.
func example(t *testing.T) *graph.Graph {
	t.Helper()
	return made(t, addV(1), addV(2), addV(3), addE(5, 1, 2, 3), addE(6, 3, 3, 0),
		prop(vertex(1), "a", number(5)), prop(vertex(1), "b", text("xy")), prop(edge(5), "a", gaussian(3+1i)), prop(edge(6), "z", text("")))
}

// sameValue: the same, down to the sign of a nought.
func sameValue(a, b api.Value) bool {
	return a.Kind == b.Kind && a.Int == b.Int && bytes.Equal(a.Text, b.Text) &&
		math.Float64bits(real(a.C)) == math.Float64bits(real(b.C)) &&
		math.Float64bits(imag(a.C)) == math.Float64bits(imag(b.C))
}

func sameAnswer(a, b api.Answer) bool {
	return a.Err == b.Err && a.Yes == b.Yes && a.Int == b.Int && a.C == b.C && a.Edge == b.Edge && sameValue(a.Val, b.Val) &&
		slices.Equal(a.Ids, b.Ids) && slices.Equal(a.Verts, b.Verts) && slices.Equal(a.Edges, b.Edges)
}

func sameWrites(a, b []api.Write) bool {
	return slices.EqualFunc(a, b, func(w, x api.Write) bool {
		return w.Kind == x.Kind && w.Id == x.Id && w.U == x.U && w.V == x.V && w.W == x.W &&
			w.Of == x.Of && w.Name == x.Name && sameValue(w.Val, x.Val)
	})
}

func sameRows(a, b []api.Row) bool {
	return slices.EqualFunc(a, b, func(p, q api.Row) bool {
		return bytes.Equal(p.Key, q.Key) && bytes.Equal(p.Val, q.Val) && p.Gone == q.Gone
	})
}

// sameGraph holds all that a graph has against another one's.
func sameGraph(t *testing.T, what string, got, want *graph.Graph) {
	t.Helper()
	a, b := got.Net(), want.Net()
	if !slices.Equal(a.Verts, b.Verts) || !slices.Equal(a.Edges, b.Edges) {
		t.Fatalf("%s: the net is %v, want %v", what, a, b)
	}
	same := slices.EqualFunc(got.Props(), want.Props(), func(p, q api.Prop) bool {
		return p.Of == q.Of && p.Name == q.Name && sameValue(p.Val, q.Val)
	})
	if !same {
		t.Fatalf("%s: the properties are %v, want %v", what, got.Props(), want.Props())
	}
}

func refs(t *testing.T, v *view.View, want ...api.Ref) {
	t.Helper()
	if got := v.Refs(); !slices.Equal(got, want) {
		t.Fatalf("Refs = %v, want %v", got, want)
	}
}

func writes(t *testing.T, v *view.View, want ...api.Write) {
	t.Helper()
	if got := v.Writes(); !sameWrites(got, want) {
		t.Fatalf("Writes = %v, want %v", got, want)
	}
}

func rows(t *testing.T, v *view.View, want ...api.Row) {
	t.Helper()
	if got := v.Rows(); !sameRows(got, want) {
		t.Fatalf("Rows = %v, want %v", got, want)
	}
}

// row is a row with a value; goes is one that goes.
func row(key, val string) api.Row { return api.Row{Key: []byte(key), Val: []byte(val)} }
func goes(key string) api.Row     { return api.Row{Key: []byte(key), Gone: true} }

func ask(t *testing.T, v *view.View, q api.Query, want api.Answer) {
	t.Helper()
	if got := v.Ask(q); !sameAnswer(got, want) {
		t.Fatalf("Ask(%+v) = %+v, want %+v", q, got, want)
	}
}

func TestExample(t *testing.T) {
	v := view.New(graph.New())
	ws := []api.Write{addV(1), addV(2), addE(5, 1, 2, 3), delE(5)}
	do(t, v, ws...)
	refs(t, v, vertex(1), vertex(2), edge(5))
	writes(t, v, ws...)
	rows(t, v, row("\x01\x00\x00\x00\x01", ""), row("\x01\x00\x00\x00\x02", ""))
}

// P22.1: a view without a write is the graph.
func TestNew(t *testing.T) {
	g := example(t)
	for range 2 {
		v := view.New(g)
		refs(t, v)
		writes(t, v)
		rows(t, v)
		for kind := range 13 {
			for u := range 8 {
				q := api.Query{Kind: kind, U: u, V: 2, Of: vertex(1), Name: "a"}
				ask(t, v, q, plain.Ask(g, q))
			}
		}
	}
}

// P22.1: each element's row, and each kind of value.
func TestForm(t *testing.T) {
	v := view.New(graph.New())
	do(t, v, addV(0x01020304), addV(7), addE(2, 7, 0x01020304, 300), prop(vertex(7), "ab", number(-3)), prop(vertex(7), "aa", gaussian(3+1i)),
		prop(edge(2), "z", text("xy")), prop(edge(2), "abcdefghijklmnop", text("")))
	rows(t, v,
		row("\x01\x00\x00\x00\x07", ""),
		row("\x01\x01\x02\x03\x04", ""),
		row("\x02\x00\x00\x00\x02", "\x07\x84\x86\x88\x08\xac\x02"),
		row("\x03\x00\x00\x00\x00\x07aa", "\x02\x06\x02"),
		row("\x03\x00\x00\x00\x00\x07ab", "\x01\x05"),
		row("\x03\x01\x00\x00\x00\x02abcdefghijklmnop", "\x03\x00"),
		row("\x03\x01\x00\x00\x00\x02z", "\x03\x02xy"))
}

// P22.1: rows that get another value, that come and that go.
func TestChanges(t *testing.T) {
	g := example(t)
	v := view.New(g)
	do(t, v, prop(vertex(1), "a", number(6)))
	rows(t, v, row("\x03\x00\x00\x00\x00\x01a", "\x01\x0c"))
	do(t, v, prop(vertex(1), "a", text("6")), unset(vertex(1), "b"))
	rows(t, v, row("\x03\x00\x00\x00\x00\x01a", "\x03\x016"), goes("\x03\x00\x00\x00\x00\x01b"))
	do(t, v, delE(6))
	rows(t, v, goes("\x02\x00\x00\x00\x06"), row("\x03\x00\x00\x00\x00\x01a", "\x03\x016"), goes("\x03\x00\x00\x00\x00\x01b"), goes("\x03\x01\x00\x00\x00\x06z"))
	do(t, v, delV(3), addE(6, 1, 1, 0))
	rows(t, v, goes("\x01\x00\x00\x00\x03"), row("\x02\x00\x00\x00\x06", "\x01\x01\x00"),
		row("\x03\x00\x00\x00\x00\x01a", "\x03\x016"), goes("\x03\x00\x00\x00\x00\x01b"), goes("\x03\x01\x00\x00\x00\x06z"))
	refs(t, v, vertex(1), vertex(3), edge(6))
	do(t, v, delE(5), addE(5, 1, 2, 4), prop(edge(5), "b", number(0)))
	rows(t, v, goes("\x01\x00\x00\x00\x03"), row("\x02\x00\x00\x00\x05", "\x01\x02\x04"), row("\x02\x00\x00\x00\x06", "\x01\x01\x00"),
		row("\x03\x00\x00\x00\x00\x01a", "\x03\x016"), goes("\x03\x00\x00\x00\x00\x01b"),
		goes("\x03\x01\x00\x00\x00\x05a"), row("\x03\x01\x00\x00\x00\x05b", "\x01\x00"), goes("\x03\x01\x00\x00\x00\x06z"))
	sameGraph(t, "beneath", g, example(t))
}

// P22.1: an edge that goes has touched the ends that it had, one that comes those that it gets.
func TestRefs(t *testing.T) {
	v := view.New(example(t))
	do(t, v, delE(5))
	refs(t, v, vertex(1), vertex(2), edge(5))
	do(t, v, addE(5, 3, 3, 0))
	refs(t, v, vertex(1), vertex(2), vertex(3), edge(5))

	v = view.New(example(t))
	do(t, v, delE(6))
	refs(t, v, vertex(3), edge(6))
	do(t, v, prop(edge(5), "b", number(1)))
	refs(t, v, vertex(3), edge(5), edge(6))
	do(t, v, unset(vertex(1), "a"), delV(3), addV(1<<31-1), addV(300))
	refs(t, v, vertex(1), vertex(3), vertex(300), vertex(1<<31-1), edge(5), edge(6))
}

// wrong are writes that the example refuses, and why.
func wrong() map[api.Errno][]api.Write {
	return map[api.Errno][]api.Write{
		api.ErrArg: {{}, {Kind: 7, Id: 9}, {Kind: -1}, addV(0), addV(-1), addV(api.MaxId + 1), delV(0), delE(math.MinInt), addE(0, 1, 2, 3),
			addE(9, 0, 2, 3), addE(9, 1, math.MaxInt, -1), prop(vertex(0), "", number(1)), unset(edge(-7), "")},
		api.ErrExists:   {addV(1), addE(5, 1, 2, 3), addE(6, 9, 9, 0)},
		api.ErrNotFound: {delV(9), delE(1), addE(9, 1, 9, 0), addE(9, 9, 1, 0), prop(vertex(5), "a", number(1)), prop(edge(1), "a", number(1)), unset(vertex(1), "c"), unset(vertex(9), "a")},
		api.ErrInUse:    {delV(1), delV(2), delV(3)},
		api.ErrWeight:   {addE(9, 1, 2, -1), addE(5, 1, 2, api.MaxWeight+1)},
		api.ErrValue: {prop(vertex(1), "", number(1)), prop(vertex(1), "A", number(1)), prop(vertex(1), "a", api.Value{}), prop(vertex(1), "a", gaussian(0.5)),
			prop(vertex(1), "a", text(strings.Repeat("x", 61))), unset(vertex(1), "a1")},
	}
}

// P22.1: a write that is refused leaves nothing behind, whether it is the first one or not.
func TestWrongWrites(t *testing.T) {
	for _, late := range []bool{false, true} {
		for e, ws := range wrong() {
			g := example(t)
			v := view.New(g)
			var good []api.Write
			if late {
				good = []api.Write{prop(vertex(1), "q", number(9)), addV(4)}
				do(t, v, good...)
			}
			before := v.Rows()
			for _, w := range ws {
				if got := v.Do(w); got != e {
					t.Fatalf("Do(%+v) = %d, want %d", w, got, e)
				}
				writes(t, v, good...)
				rows(t, v, before...)
				if late {
					refs(t, v, vertex(1), vertex(4))
				} else {
					refs(t, v)
				}
			}
			ask(t, v, api.Query{Kind: api.QNet}, plain.Ask(made(t, append(exampleWrites(), good...)...), api.Query{Kind: api.QNet}))
			sameGraph(t, "beneath", g, example(t))
		}
	}
}

// exampleWrites are those of the example's net.
func exampleWrites() []api.Write {
	return []api.Write{addV(1), addV(2), addV(3), addE(5, 1, 2, 3), addE(6, 3, 3, 0)}
}

// P22.1: as many as a graph may have.
func TestMany(t *testing.T) {
	g := graph.New()
	for id := 1; id < api.MaxVerts; id++ {
		do(t, g, addV(id))
	}
	for id := 1; id < api.MaxEdges; id++ {
		do(t, g, addE(id, 1, id, 1))
	}
	for id := 1; id < api.MaxVerts; id++ {
		do(t, g, prop(vertex(id), "a", number(1)), prop(edge(id), "a", number(1)))
	}
	do(t, g, prop(vertex(1), "b", number(1)))
	v := view.New(g)
	for range 2 {
		do(t, v, addV(5000), addE(5000, 5000, 5000, 0), prop(vertex(5000), "a", number(1)))
		for _, w := range []api.Write{addV(5001), addE(5001, 1, 2, 0), prop(vertex(5000), "b", number(1))} {
			if e := v.Do(w); e != api.ErrMany {
				t.Fatalf("Do(%+v) = %d", w, e)
			}
		}
		rows(t, v, row("\x01\x00\x00\x13\x88", ""), row("\x02\x00\x00\x13\x88", "\x88\x27\x88\x27\x00"), row("\x03\x00\x00\x00\x13\x88a", "\x01\x02"))
		do(t, v, delE(5000), delV(5000))
		rows(t, v)
	}
	refs(t, v, vertex(5000), edge(5000))
}

// P22.3: writes that take back one another leave no rows, but are told.
func TestTakenBack(t *testing.T) {
	for _, ws := range [][]api.Write{
		{addV(4), delV(4)},
		{delE(6), delV(3), addV(3), addE(6, 3, 3, 0), prop(edge(6), "z", text(""))},
		{delE(5), addE(5, 1, 2, 3), prop(edge(5), "a", gaussian(3+1i))},
		{addV(4), addE(7, 4, 1, 1), prop(edge(7), "a", number(1)), prop(vertex(4), "a", number(1)), delE(7), delV(4)},
		{prop(vertex(1), "a", number(6)), prop(vertex(1), "a", text("q")), prop(vertex(1), "a", number(5))},
		{prop(vertex(1), "a", number(5))},
		{unset(vertex(1), "b"), prop(vertex(1), "b", text("xy"))},
		{prop(vertex(3), "c", number(1)), unset(vertex(3), "c")},
		{prop(edge(5), "a", gaussian(complex(less, less))), prop(edge(5), "a", gaussian(3+1i))},
	} {
		v := view.New(example(t))
		do(t, v, ws...)
		rows(t, v)
		if got := v.Writes(); len(got) != len(ws) || len(v.Refs()) == 0 {
			t.Fatalf("Writes = %v, Refs = %v", got, v.Refs())
		}
	}
	v := view.New(example(t))
	do(t, v, delE(5), addE(5, 2, 1, 3)) // the ends the other way round are others
	rows(t, v, row("\x02\x00\x00\x00\x05", "\x02\x01\x03"), goes("\x03\x01\x00\x00\x00\x05a"))
	do(t, v, delE(5), addE(5, 1, 2, 3))
	rows(t, v, goes("\x03\x01\x00\x00\x00\x05a"))
}

// A nought with a minus sign is nought, also where a write is told again.
func TestNoMinusNought(t *testing.T) {
	v := view.New(graph.New())
	do(t, v, addV(1), prop(vertex(1), "a", gaussian(complex(less, less))), prop(vertex(1), "b", gaussian(complex(less, 2))))
	writes(t, v, addV(1), prop(vertex(1), "a", gaussian(0)), prop(vertex(1), "b", gaussian(2i)))
	ask(t, v, api.Query{Kind: api.QProp, Of: vertex(1), Name: "a"}, api.Answer{Val: gaussian(0)})
}

// spoil writes over all that a list has, spare room too.
func spoil[T any](list []T, by T) {
	list = list[:cap(list)]
	for i := range list {
		list[i] = by
	}
}

// P22.4: what is handed in is neither changed nor kept.
func TestArguments(t *testing.T) {
	back := []byte("abcdef")
	w := prop(vertex(1), "a", api.Value{Kind: api.VText, Text: back[1:3]})
	v := view.New(example(t))
	do(t, v, w)
	if string(back) != "abcdef" {
		t.Fatalf("changed to %q", back)
	}
	spoil(back, '#')
	ask(t, v, api.Query{Kind: api.QProp, Of: vertex(1), Name: "a"}, api.Answer{Val: text("bc")})
	writes(t, v, prop(vertex(1), "a", text("bc")))
	rows(t, v, row("\x03\x00\x00\x00\x00\x01a", "\x03\x02bc"))
}

// P22.4: what is answered is new memory.
func TestAnswers(t *testing.T) {
	g := example(t)
	v := view.New(g)
	ws := []api.Write{addV(9), prop(vertex(1), "a", text("q")), prop(edge(5), "b", text("rs")), unset(vertex(1), "b"), prop(vertex(9), "c", text("rs"))}
	do(t, v, ws...)
	before := v.Rows()
	queries := []api.Query{{Kind: api.QNet}, {Kind: api.QAround, U: 1}, {Kind: api.QForest}, {Kind: api.QProp, Of: vertex(1), Name: "a"}}
	for range 2 {
		spoil(v.Refs(), edge(77))
		all := v.Writes()
		for i := range all {
			spoil(all[i].Val.Text, '#')
			if i+1 < len(all) && !sameWrites(all[i+1:], ws[i+1:]) {
				t.Fatalf("two texts of Writes share memory: %v", all)
			}
		}
		spoil(all, api.Write{Kind: 77})
		list := v.Rows()
		for i := range list {
			spoil(list[i].Key, '#')
			if string(list[i].Val) != string(before[i].Val) {
				t.Fatalf("a row's key and value share memory: %v", list[i])
			}
			spoil(list[i].Val, '#')
			if !sameRows(list[i+1:], before[i+1:]) {
				t.Fatalf("two rows share memory: %v", list)
			}
		}
		spoil(list, api.Row{})
		for _, q := range queries {
			a := v.Ask(q)
			spoil(a.Verts, 77)
			spoil(a.Edges, api.Edge{Id: 77})
			spoil(a.Ids, 77)
			spoil(a.Val.Text, '#')
		}
		writes(t, v, ws...)
		rows(t, v, before...)
		refs(t, v, vertex(1), vertex(9), edge(5))
		now := example(t)
		do(t, now, ws...)
		for _, q := range queries {
			ask(t, v, q, plain.Ask(now, q))
		}
		sameGraph(t, "beneath", g, example(t))
	}
}

// P22.1: two views of one graph see each its own writes alone.
func TestTwoViews(t *testing.T) {
	g := example(t)
	a, b := view.New(g), view.New(g)
	do(t, a, delE(5), delV(1))
	do(t, b, addV(4), prop(vertex(1), "a", text("b")))
	ask(t, a, api.Query{Kind: api.QHasV, U: 1}, api.Answer{})
	ask(t, b, api.Query{Kind: api.QHasV, U: 1}, api.Answer{Yes: true})
	ask(t, a, api.Query{Kind: api.QHasV, U: 4}, api.Answer{})
	refs(t, a, vertex(1), vertex(2), edge(5))
	refs(t, b, vertex(1), vertex(4))
	sameGraph(t, "beneath", g, example(t))
	ask(t, view.New(g), api.Query{Kind: api.QAround, U: 1}, api.Answer{Ids: []int{5}})
}
