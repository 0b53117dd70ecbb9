package graph_test

import (
	"bytes"
	"cmp"
	"math"
	"math/rand/v2"
	"reflect"
	"slices"
	"strings"
	"testing"

	"skein/api"
	"skein/graph"
	"skein/keys"
)

var less = math.Copysign(0, -1) // nought with a minus sign

func vertex(id int) api.Ref { return api.Ref{Id: id} }
func edge(id int) api.Ref   { return api.Ref{Edge: true, Id: id} }

func addV(id int) api.Write { return api.Write{Kind: api.WAddV, Id: id} }
func delV(id int) api.Write { return api.Write{Kind: api.WDelV, Id: id} }
func delE(id int) api.Write { return api.Write{Kind: api.WDelE, Id: id} }
func addE(id, u, v int, w int64) api.Write {
	return api.Write{Kind: api.WAddE, Id: id, U: u, V: v, W: w}
}
func prop(of api.Ref, name string, v api.Value) api.Write {
	return api.Write{Kind: api.WProp, Of: of, Name: name, Val: v}
}
func unset(of api.Ref, name string) api.Write {
	return api.Write{Kind: api.WUnset, Of: of, Name: name}
}

func number(n int64) api.Value        { return api.Value{Kind: api.VInt, Int: n} }
func gaussian(c complex128) api.Value { return api.Value{Kind: api.VGauss, C: c} }
func text(s string) api.Value         { return api.Value{Kind: api.VText, Text: []byte(s)} }

func wrongIds() []int {
	return []int{0, -1, api.MaxId + 1, 1 << 32, 1<<32 + 1, math.MaxInt, math.MinInt}
}

func wrongNames() []string {
	return []string{"", "A", "a b", "a1", "`", "{", "a\x00", "ä", "abcdefghijklmnopq", strings.Repeat("x", 300)}
}

func wrongValues() []api.Value {
	return []api.Value{
		{},
		{Kind: 4, Int: 1},
		{Kind: -1},
		{Kind: api.VInt, C: 1},
		{Kind: api.VInt, Text: []byte{0}},
		{Kind: api.VGauss, C: 0.5},
		{Kind: api.VGauss, C: complex(math.NaN(), 0)},
		{Kind: api.VGauss, C: complex(0, api.MaxPart+1)},
		{Kind: api.VGauss, C: 1, Int: 1},
		{Kind: api.VText, Text: make([]byte, api.MaxText+1)},
		{Kind: api.VText, C: 1},
	}
}

// do: these writes go well.
func do(t *testing.T, g *graph.Graph, ws ...api.Write) {
	t.Helper()
	for _, w := range ws {
		if e := g.Do(w); e != api.OK {
			t.Fatalf("Do(%+v) = %d", w, e)
		}
	}
}

func made(t *testing.T, ws ...api.Write) *graph.Graph {
	t.Helper()
	g := graph.New()
	do(t, g, ws...)
	return g
}

// refused: a write is answered with this error, and changes nothing.
func refused(t *testing.T, g *graph.Graph, w api.Write, want api.Errno) {
	t.Helper()
	net, props := g.Net(), g.Props()
	if e := g.Do(w); e != want {
		t.Errorf("Do(%+v) = %d, want %d", w, e, want)
	}
	if !sameNet(g.Net(), net) || !sameProps(g.Props(), props) {
		t.Errorf("Do(%+v) was refused and changed something", w)
	}
}

func sameNet(a, b api.Net) bool {
	return slices.Equal(a.Verts, b.Verts) && slices.Equal(a.Edges, b.Edges)
}

// sameValue: the same, down to the sign of a nought.
func sameValue(a, b api.Value) bool {
	return a.Kind == b.Kind && a.Int == b.Int && bytes.Equal(a.Text, b.Text) &&
		math.Float64bits(real(a.C)) == math.Float64bits(real(b.C)) &&
		math.Float64bits(imag(a.C)) == math.Float64bits(imag(b.C))
}

func sameProps(a, b []api.Prop) bool {
	return slices.EqualFunc(a, b, func(p, q api.Prop) bool {
		return p.Of == q.Of && p.Name == q.Name && sameValue(p.Val, q.Val)
	})
}

func around(t *testing.T, g *graph.Graph, id int, want ...int) {
	t.Helper()
	if got, e := g.Around(id); !slices.Equal(got, want) || e != api.OK {
		t.Errorf("Around(%d) = %v, %d, want %v", id, got, e, want)
	}
}

// P5.1

func TestExample(t *testing.T) {
	g := made(t, addV(1), addV(2), addE(5, 1, 2, 3))
	around(t, g, 1, 5)
	refused(t, g, delV(1), api.ErrInUse)
	if got := g.Refs(delE(5)); !slices.Equal(got, []api.Ref{vertex(1), vertex(2), edge(5)}) {
		t.Errorf("Refs = %v", got)
	}
	do(t, g, addE(6, 1, 1, 0))
	around(t, g, 1, 5, 6)
	around(t, g, 2, 5)
}

func TestEmpty(t *testing.T) {
	g := graph.New()
	if n := g.Net(); len(n.Verts) != 0 || len(n.Edges) != 0 || len(g.Props()) != 0 {
		t.Errorf("new: %v, %v", n, g.Props())
	}
	if g.HasV(1) {
		t.Error("HasV")
	}
	if e, ok := g.Edge(1); ok || e != (api.Edge{}) {
		t.Errorf("Edge = %v, %v", e, ok)
	}
	if v, ok := g.Prop(vertex(1), "a"); ok || !sameValue(v, api.Value{}) || len(v.Text) != 0 {
		t.Errorf("Prop = %v, %v", v, ok)
	}
	if ids, e := g.Around(1); len(ids) != 0 || e != api.ErrNotFound {
		t.Errorf("Around = %v, %d", ids, e)
	}
	c := g.Clone()
	do(t, c, addV(1))
	if g.HasV(1) || !c.HasV(1) {
		t.Error("a clone of an empty graph")
	}
}

func TestIds(t *testing.T) {
	g := made(t, addV(1), addV(api.MaxId), addE(1, 1, 1, 0), addE(api.MaxId, api.MaxId, 1, api.MaxWeight))
	for _, id := range wrongIds() {
		for _, w := range []api.Write{
			addV(id), delV(id), delE(id),
			addE(id, 1, 1, 0), addE(3, id, 1, 0), addE(3, 1, id, 0), addE(id, 7, 1, -1),
			prop(vertex(id), "a", number(1)), prop(edge(id), "", api.Value{}),
			unset(vertex(id), "a"), unset(edge(id), ""),
		} {
			refused(t, g, w, api.ErrArg)
		}
		if g.HasV(id) {
			t.Errorf("HasV(%d)", id)
		}
		if e, ok := g.Edge(id); ok || e != (api.Edge{}) {
			t.Errorf("Edge(%d) = %v", id, e)
		}
		if v, ok := g.Prop(edge(id), "a"); ok || v.Kind != 0 {
			t.Errorf("Prop(%d) = %v", id, v)
		}
		if ids, e := g.Around(id); len(ids) != 0 || e != api.ErrNotFound {
			t.Errorf("Around(%d) = %v, %d", id, ids, e)
		}
	}
}

func TestKinds(t *testing.T) {
	g := made(t, addV(1))
	for _, kind := range []int{0, 7, -1, 257, math.MaxInt, math.MinInt} {
		w := api.Write{Kind: kind, Id: 2, U: 1, V: 1, Of: vertex(1), Name: "a", Val: number(1)}
		refused(t, g, w, api.ErrArg)
		if refs := g.Refs(w); len(refs) != 0 {
			t.Errorf("Refs of kind %d = %v", kind, refs)
		}
	}
}

func TestOtherFieldsDontCount(t *testing.T) {
	noise := func(w api.Write) api.Write {
		n := api.Write{Kind: w.Kind, Id: -5, U: -6, V: 1 << 40, W: -7, Of: edge(-8), Name: "NO", Val: api.Value{Kind: 9, C: 0.5}}
		switch w.Kind {
		case api.WAddE:
			n.Id, n.U, n.V, n.W = w.Id, w.U, w.V, w.W
		case api.WProp:
			n.Of, n.Name, n.Val = w.Of, w.Name, w.Val
		case api.WUnset:
			n.Of, n.Name = w.Of, w.Name
		default:
			n.Id = w.Id
		}
		return n
	}
	g, h := graph.New(), graph.New()
	for _, w := range []api.Write{
		addV(1), addV(2), addE(1, 1, 2, 3), addE(2, 2, 2, 4), prop(vertex(1), "a", number(1)),
		prop(edge(2), "b", text("x")), unset(vertex(1), "a"), delE(1), delV(1),
	} {
		if a, b := g.Refs(w), h.Refs(noise(w)); !slices.Equal(a, b) {
			t.Errorf("Refs of %+v = %v, with noise %v", w, a, b)
		}
		do(t, g, w)
		do(t, h, noise(w))
	}
	if !sameNet(g.Net(), h.Net()) || !sameProps(g.Props(), h.Props()) {
		t.Errorf("%v, %v; with noise %v, %v", g.Net(), g.Props(), h.Net(), h.Props())
	}
}

func TestVertices(t *testing.T) {
	g := made(t, addV(3), addV(1), addE(3, 3, 3, 0))
	refused(t, g, addV(3), api.ErrExists)
	refused(t, g, delV(2), api.ErrNotFound)
	refused(t, g, delV(3), api.ErrInUse)
	do(t, g, delV(1))
	refused(t, g, delV(1), api.ErrNotFound)
	do(t, g, addV(1), delE(3), delV(3))
	if n := g.Net(); !slices.Equal(n.Verts, []int{1}) || len(n.Edges) != 0 {
		t.Errorf("Net = %v", n)
	}
}

func TestInUseByEitherEnd(t *testing.T) {
	g := made(t, addV(1), addV(2), addE(7, 1, 2, 0), addE(8, 1, 2, 0))
	refused(t, g, delV(1), api.ErrInUse)
	refused(t, g, delV(2), api.ErrInUse)
	do(t, g, delE(7))
	refused(t, g, delV(1), api.ErrInUse)
	refused(t, g, delV(2), api.ErrInUse)
	do(t, g, delE(8), delV(2), delV(1))
}

func TestEdges(t *testing.T) {
	g := made(t, addV(1), addV(2), addE(5, 2, 1, api.MaxWeight), addE(6, 1, 2, 0), addE(4, 2, 2, 1))
	if e, ok := g.Edge(5); e != (api.Edge{Id: 5, U: 2, V: 1, W: api.MaxWeight}) || !ok {
		t.Errorf("Edge(5) = %v, %v", e, ok)
	}
	if e, ok := g.Edge(1); e != (api.Edge{}) || ok {
		t.Errorf("Edge(1) = %v, %v", e, ok)
	}
	around(t, g, 1, 5, 6)
	around(t, g, 2, 4, 5, 6)
	for _, x := range []struct {
		w    api.Write
		want api.Errno
	}{
		{addE(0, 3, 3, -1), api.ErrArg},
		{addE(5, 3, 3, -1), api.ErrWeight},
		{addE(7, 1, 2, -1), api.ErrWeight},
		{addE(7, 1, 2, math.MinInt64), api.ErrWeight},
		{addE(7, 1, 2, api.MaxWeight+1), api.ErrWeight},
		{addE(7, 1, 2, math.MaxInt64), api.ErrWeight},
		{addE(5, 3, 3, 0), api.ErrExists},
		{addE(5, 1, 2, 0), api.ErrExists},
		{addE(7, 3, 1, 0), api.ErrNotFound},
		{addE(7, 1, 3, 0), api.ErrNotFound},
		{delE(7), api.ErrNotFound},
		{delE(1), api.ErrNotFound},
	} {
		refused(t, g, x.w, x.want)
	}
	do(t, g, delE(5))
	refused(t, g, delE(5), api.ErrNotFound)
	around(t, g, 1, 6)
	do(t, g, addE(5, 1, 1, 9))
	if e, ok := g.Edge(5); e != (api.Edge{Id: 5, U: 1, V: 1, W: 9}) || !ok {
		t.Errorf("Edge(5) = %v, %v", e, ok)
	}
}

func TestProps(t *testing.T) {
	long := strings.Repeat("z", api.MaxName)
	g := made(t, addV(1), addV(2), addE(1, 1, 2, 0),
		prop(edge(1), "b", number(-1)), prop(vertex(2), "a", text("x")),
		prop(vertex(1), long, gaussian(complex(api.MaxPart, -api.MaxPart))),
		prop(vertex(1), "b", text(strings.Repeat("\xff", api.MaxText))),
		prop(vertex(1), "ab", number(math.MinInt64)), prop(edge(1), "a", text("")))
	want := []api.Prop{
		{Of: vertex(1), Name: "ab", Val: number(math.MinInt64)},
		{Of: vertex(1), Name: "b", Val: text(strings.Repeat("\xff", api.MaxText))},
		{Of: vertex(1), Name: long, Val: gaussian(complex(api.MaxPart, -api.MaxPart))},
		{Of: vertex(2), Name: "a", Val: text("x")},
		{Of: edge(1), Name: "a", Val: text("")},
		{Of: edge(1), Name: "b", Val: number(-1)},
	}
	if got := g.Props(); !sameProps(got, want) {
		t.Errorf("Props = %v", got)
	}
	for _, p := range want {
		if v, ok := g.Prop(p.Of, p.Name); !ok || !sameValue(v, p.Val) {
			t.Errorf("Prop(%v, %q) = %v, %v", p.Of, p.Name, v, ok)
		}
	}
	do(t, g, prop(vertex(2), "a", number(4)))
	if v, ok := g.Prop(vertex(2), "a"); !ok || !sameValue(v, number(4)) {
		t.Errorf("Prop = %v, %v", v, ok)
	}
	if v, ok := g.Prop(edge(1), "c"); ok || !reflect.DeepEqual(v, api.Value{}) {
		t.Errorf("Prop = %v, %v", v, ok)
	}
}

func TestPropErrors(t *testing.T) {
	g := made(t, addV(1), addV(3), addE(2, 1, 1, 0), prop(vertex(1), "a", number(1)))
	for _, name := range wrongNames() {
		refused(t, g, prop(vertex(1), name, number(1)), api.ErrValue)
		refused(t, g, prop(vertex(9), name, number(1)), api.ErrValue)
		refused(t, g, unset(vertex(1), name), api.ErrValue)
		refused(t, g, unset(edge(9), name), api.ErrValue)
		if v, ok := g.Prop(vertex(1), name); ok || v.Kind != 0 {
			t.Errorf("Prop(%q) = %v, %v", name, v, ok)
		}
	}
	for _, v := range wrongValues() {
		refused(t, g, prop(vertex(1), "a", v), api.ErrValue)
		refused(t, g, prop(edge(9), "a", v), api.ErrValue)
	}
	// Vertices and edges are numbered apart.
	for _, of := range []api.Ref{vertex(2), edge(1), edge(3), vertex(9), edge(9)} {
		refused(t, g, prop(of, "a", number(1)), api.ErrNotFound)
		refused(t, g, unset(of, "a"), api.ErrNotFound)
	}
	refused(t, g, unset(vertex(1), "b"), api.ErrNotFound)
	refused(t, g, unset(vertex(3), "a"), api.ErrNotFound)
	do(t, g, unset(vertex(1), "a"))
	refused(t, g, unset(vertex(1), "a"), api.ErrNotFound)
}

func TestNoMinusNought(t *testing.T) {
	g := made(t, addV(1),
		prop(vertex(1), "a", gaussian(complex(less, less))),
		prop(vertex(1), "b", gaussian(complex(3, less))),
		prop(vertex(1), "c", api.Value{Kind: api.VInt, Int: 2, C: complex(less, 0)}))
	for name, want := range map[string]api.Value{"a": gaussian(0), "b": gaussian(3), "c": number(2)} {
		for _, h := range []*graph.Graph{g, g.Clone()} {
			if v, ok := h.Prop(vertex(1), name); !ok || !sameValue(v, want) {
				t.Errorf("Prop(%q) = %v, %v", name, v, ok)
			}
		}
	}
}

func TestRefs(t *testing.T) {
	g := made(t, addV(1), addV(2), addE(5, 2, 1, 3), addE(6, 2, 2, 0))
	for _, x := range []struct {
		w    api.Write
		want []api.Ref
	}{
		{addV(1), []api.Ref{vertex(1)}},
		{addV(-3), []api.Ref{vertex(-3)}},
		{delV(9), []api.Ref{vertex(9)}},
		{addE(7, 2, 1, 3), []api.Ref{vertex(1), vertex(2), edge(7)}},
		{addE(1, 2, 2, -1), []api.Ref{vertex(2), edge(1)}},
		{addE(1, 9, 1, 0), []api.Ref{vertex(1), vertex(9), edge(1)}},
		{addE(0, math.MaxInt, math.MinInt, 0), []api.Ref{vertex(math.MinInt), vertex(math.MaxInt), edge(0)}},
		{addE(5, 8, 7, 0), []api.Ref{vertex(7), vertex(8), edge(5)}},
		{delE(5), []api.Ref{vertex(1), vertex(2), edge(5)}},
		{delE(6), []api.Ref{vertex(2), edge(6)}},
		{delE(7), []api.Ref{edge(7)}},
		{delE(0), []api.Ref{edge(0)}},
		{prop(vertex(1), "a", number(1)), []api.Ref{vertex(1)}},
		{prop(edge(5), "", api.Value{}), []api.Ref{edge(5)}},
		{unset(edge(-1), "a"), []api.Ref{edge(-1)}},
		{unset(vertex(2), "a"), []api.Ref{vertex(2)}},
		{api.Write{Id: 1}, nil},
	} {
		if got := g.Refs(x.w); !slices.Equal(got, x.want) {
			t.Errorf("Refs(%+v) = %v, want %v", x.w, got, x.want)
		}
	}
}

// full: a graph with as much as it may have.
func full(t *testing.T) *graph.Graph {
	t.Helper()
	g := graph.New()
	for i := range api.MaxVerts {
		do(t, g, addV(2*i+1))
	}
	for i := range api.MaxEdges {
		do(t, g, addE(3*i+1, 1, 3, int64(i)))
	}
	for i := range api.MaxProps / 2 {
		do(t, g, prop(vertex(2*i+1), "a", number(int64(i))), prop(edge(3*i+1), "a", text("x")))
	}
	return g
}

func TestMany(t *testing.T) {
	g := full(t)
	for _, x := range []struct {
		w    api.Write
		want api.Errno
	}{
		{addV(2), api.ErrMany},
		{addV(1), api.ErrExists},
		{addV(0), api.ErrArg},
		{addE(2, 1, 1, 0), api.ErrMany},
		{addE(2, 1, 2, 0), api.ErrNotFound},
		{addE(1, 1, 1, 0), api.ErrExists},
		{addE(2, 1, 1, -1), api.ErrWeight},
		{prop(vertex(1), "b", number(1)), api.ErrMany},
		{prop(edge(4), "b", number(1)), api.ErrMany},
		{prop(vertex(2), "b", number(1)), api.ErrNotFound},
		{prop(vertex(1), "b", api.Value{}), api.ErrValue},
	} {
		refused(t, g, x.w, x.want)
	}
	do(t, g, prop(vertex(1), "a", text("new")))
	do(t, g, unset(vertex(1), "a"), prop(edge(4), "b", number(1)))
	refused(t, g, prop(vertex(1), "a", number(1)), api.ErrMany)
	do(t, g, delE(4), prop(vertex(1), "a", number(1)), prop(vertex(1), "b", number(1)))
	refused(t, g, prop(vertex(1), "c", number(1)), api.ErrMany)
	do(t, g, addE(4, 1, 5, 0))
	refused(t, g, addE(2, 1, 1, 0), api.ErrMany)
	do(t, g, delV(7), addV(8))
	refused(t, g, addV(7), api.ErrMany)
}

// model is a graph as lists that are gone through.
type model struct {
	net   api.Net
	props []api.Prop
}

func (m *model) edgesAt(id int) []int {
	var out []int
	for _, e := range m.net.Edges {
		if e.U == id || e.V == id {
			out = append(out, e.Id)
		}
	}
	return out
}

func (m *model) has(r api.Ref) bool {
	if !r.Edge {
		return slices.Contains(m.net.Verts, r.Id)
	}
	return slices.ContainsFunc(m.net.Edges, func(e api.Edge) bool { return e.Id == r.Id })
}

func (m *model) find(of api.Ref, name string) int {
	return slices.IndexFunc(m.props, func(p api.Prop) bool { return p.Of == of && p.Name == name })
}

func (m *model) drop(of api.Ref) {
	m.props = slices.DeleteFunc(m.props, func(p api.Prop) bool { return p.Of == of })
}

func (m *model) sort() {
	slices.Sort(m.net.Verts)
	slices.SortFunc(m.net.Edges, func(a, b api.Edge) int { return a.Id - b.Id })
	slices.SortFunc(m.props, func(a, b api.Prop) int {
		edges := 0
		if a.Of.Edge {
			edges++
		}
		if b.Of.Edge {
			edges--
		}
		return cmp.Or(edges, a.Of.Id-b.Of.Id, strings.Compare(a.Name, b.Name))
	})
}

func badId(id int) bool { return id < 1 || id > api.MaxId }

func (m *model) do(w api.Write) api.Errno {
	defer m.sort()
	switch w.Kind {
	case api.WAddV:
		switch {
		case badId(w.Id):
			return api.ErrArg
		case m.has(vertex(w.Id)):
			return api.ErrExists
		}
		m.net.Verts = append(m.net.Verts, w.Id)
	case api.WDelV:
		switch {
		case badId(w.Id):
			return api.ErrArg
		case !m.has(vertex(w.Id)):
			return api.ErrNotFound
		case len(m.edgesAt(w.Id)) > 0:
			return api.ErrInUse
		}
		m.net.Verts = slices.DeleteFunc(m.net.Verts, func(v int) bool { return v == w.Id })
		m.drop(vertex(w.Id))
	case api.WAddE:
		switch {
		case badId(w.Id) || badId(w.U) || badId(w.V):
			return api.ErrArg
		case w.W < 0 || w.W > api.MaxWeight:
			return api.ErrWeight
		case m.has(edge(w.Id)):
			return api.ErrExists
		case !m.has(vertex(w.U)) || !m.has(vertex(w.V)):
			return api.ErrNotFound
		}
		m.net.Edges = append(m.net.Edges, api.Edge{Id: w.Id, U: w.U, V: w.V, W: w.W})
	case api.WDelE:
		switch {
		case badId(w.Id):
			return api.ErrArg
		case !m.has(edge(w.Id)):
			return api.ErrNotFound
		}
		m.net.Edges = slices.DeleteFunc(m.net.Edges, func(e api.Edge) bool { return e.Id == w.Id })
		m.drop(edge(w.Id))
	default:
		return m.doProp(w)
	}
	return api.OK
}

func (m *model) doProp(w api.Write) api.Errno {
	if w.Kind != api.WProp && w.Kind != api.WUnset {
		return api.ErrArg
	}
	i := m.find(w.Of, w.Name)
	switch {
	case badId(w.Of.Id):
		return api.ErrArg
	case !keys.Name(w.Name) || w.Kind == api.WProp && !keys.Right(w.Val):
		return api.ErrValue
	case !m.has(w.Of) || w.Kind == api.WUnset && i < 0:
		return api.ErrNotFound
	}
	if i >= 0 {
		m.props = slices.Delete(m.props, i, i+1)
	}
	if w.Kind == api.WProp {
		m.props = append(m.props, api.Prop{Of: w.Of, Name: w.Name, Val: w.Val})
	}
	return api.OK
}

func randomWrite(r *rand.Rand) api.Write {
	id := func() int { return r.IntN(9) }
	names := []string{"a", "b", "ab", "", "B"}
	values := []api.Value{number(1), number(-7), gaussian(2 - 3i), text("xyz"), text(""), {}, {Kind: api.VText, Int: 1}}
	return api.Write{
		Kind: r.IntN(8), Id: id(), U: id(), V: id(), W: int64(r.IntN(12)) - 1,
		Of: api.Ref{Edge: r.IntN(2) == 0, Id: id()}, Name: names[r.IntN(len(names))], Val: values[r.IntN(len(values))],
	}
}

// held: the graph answers all questions as the model.
func held(t *testing.T, g *graph.Graph, m *model) {
	t.Helper()
	if n := g.Net(); !sameNet(n, m.net) {
		t.Fatalf("Net = %v, want %v", n, m.net)
	}
	if ps := g.Props(); !sameProps(ps, m.props) {
		t.Fatalf("Props = %v, want %v", ps, m.props)
	}
	for id := range 10 {
		if g.HasV(id) != m.has(vertex(id)) {
			t.Fatalf("HasV(%d) = %v", id, g.HasV(id))
		}
		i := slices.IndexFunc(m.net.Edges, func(e api.Edge) bool { return e.Id == id })
		if e, ok := g.Edge(id); ok != (i >= 0) || ok && e != m.net.Edges[i] || !ok && e != (api.Edge{}) {
			t.Fatalf("Edge(%d) = %v, %v", id, e, ok)
		}
		ids, e := g.Around(id)
		if !slices.Equal(ids, m.edgesAt(id)) || (e == api.OK) != m.has(vertex(id)) || e != api.OK && e != api.ErrNotFound {
			t.Fatalf("Around(%d) = %v, %d", id, ids, e)
		}
		for _, of := range []api.Ref{vertex(id), edge(id)} {
			for _, name := range []string{"a", "b", "ab", "", "B"} {
				i := m.find(of, name)
				v, ok := g.Prop(of, name)
				if ok != (i >= 0) || ok && !sameValue(v, m.props[i].Val) || !ok && !sameValue(v, api.Value{}) {
					t.Fatalf("Prop(%v, %q) = %v, %v", of, name, v, ok)
				}
			}
		}
	}
}

func TestEveryOrder(t *testing.T) {
	for seed := range uint64(40) {
		r := rand.New(rand.NewPCG(seed, 5))
		g, m := graph.New(), &model{}
		for range 400 {
			w := randomWrite(r)
			got, want := g.Do(w), m.do(w)
			if got != want {
				t.Fatalf("seed %d: Do(%+v) = %d, want %d", seed, w, got, want)
			}
			if r.IntN(20) == 0 {
				g = g.Clone()
			}
			if r.IntN(4) == 0 {
				held(t, g, m)
			}
		}
	}
}

// P5.2

// changed are the elements that two states differ in.
func changed(a, b *graph.Graph) []api.Ref {
	var out []api.Ref
	for id := 1; id < 10; id++ {
		if a.HasV(id) != b.HasV(id) || !sameProps(propsOf(a, vertex(id)), propsOf(b, vertex(id))) {
			out = append(out, vertex(id))
		}
		x, xOk := a.Edge(id)
		y, yOk := b.Edge(id)
		if xOk != yOk || x != y || !sameProps(propsOf(a, edge(id)), propsOf(b, edge(id))) {
			out = append(out, edge(id))
		}
	}
	return out
}

func propsOf(g *graph.Graph, of api.Ref) []api.Prop {
	return slices.DeleteFunc(g.Props(), func(p api.Prop) bool { return p.Of != of })
}

func TestChangesWhatItTouches(t *testing.T) {
	r := rand.New(rand.NewPCG(7, 7))
	g := graph.New()
	for range 4000 {
		w := randomWrite(r)
		before, refs := g.Clone(), g.Refs(w)
		e := g.Do(w)
		got := changed(before, g)
		if e != api.OK && len(got) > 0 {
			t.Fatalf("Do(%+v) = %d changed %v", w, e, got)
		}
		// Of an edge that comes or goes only itself changes; its ends are touched.
		if len(got) > 1 {
			t.Fatalf("Do(%+v) changed %v", w, got)
		}
		for _, ref := range got {
			if !slices.Contains(refs, ref) {
				t.Fatalf("Do(%+v) changed %v, touched %v", w, ref, refs)
			}
		}
		if e == api.OK && w.Kind != api.WProp && len(got) != 1 {
			t.Fatalf("Do(%+v) went well and changed nothing", w)
		}
	}
}

// P5.3

func TestPropertiesGoWithTheirElement(t *testing.T) {
	g := made(t, addV(1), addV(2), addE(1, 1, 2, 0), addE(2, 1, 2, 0),
		prop(vertex(1), "a", number(1)), prop(vertex(1), "b", number(2)), prop(vertex(2), "a", number(3)),
		prop(edge(1), "a", number(4)), prop(edge(1), "b", number(5)), prop(edge(2), "a", number(6)))
	do(t, g, delE(1), delE(2), addE(1, 2, 2, 0))
	want := []api.Prop{
		{Of: vertex(1), Name: "a", Val: number(1)},
		{Of: vertex(1), Name: "b", Val: number(2)},
		{Of: vertex(2), Name: "a", Val: number(3)},
	}
	if got := g.Props(); !sameProps(got, want) {
		t.Errorf("Props = %v", got)
	}
	do(t, g, delV(1), addV(1))
	if got := g.Props(); !sameProps(got, want[2:]) {
		t.Errorf("Props = %v", got)
	}
}

func TestNothingHangsLoose(t *testing.T) {
	r := rand.New(rand.NewPCG(8, 8))
	g := graph.New()
	for range 4000 {
		g.Do(randomWrite(r))
		for _, e := range g.Net().Edges {
			if !g.HasV(e.U) || !g.HasV(e.V) {
				t.Fatalf("edge %v without its ends", e)
			}
		}
		for _, p := range g.Props() {
			_, ok := g.Edge(p.Of.Id)
			if p.Of.Edge && !ok || !p.Of.Edge && !g.HasV(p.Of.Id) {
				t.Fatalf("property %v without its element", p)
			}
		}
	}
}

// P5.4

func TestArgumentsAreNotKept(t *testing.T) {
	back := []byte("abcdef")
	w := prop(vertex(1), "a", api.Value{Kind: api.VText, Text: back[1:3]})
	g := made(t, addV(1), w)
	if string(back) != "abcdef" {
		t.Errorf("changed to %q", back)
	}
	copy(back, "######")
	if v, _ := g.Prop(vertex(1), "a"); string(v.Text) != "bc" {
		t.Errorf("Prop = %q", v.Text)
	}
}

// spoil writes over all that a list has, spare room too.
func spoil[T any](list []T, by T) {
	list = list[:cap(list)]
	for i := range list {
		list[i] = by
	}
}

func TestAnswersAreNew(t *testing.T) {
	g := made(t, addV(1), addV(2), addE(5, 1, 2, 3), addE(6, 1, 1, 4),
		prop(vertex(1), "a", text("xy")), prop(edge(5), "a", text("z")))
	net, props := g.Clone().Net(), g.Clone().Props()
	for range 2 {
		n := g.Net()
		spoil(n.Verts, 9)
		spoil(n.Edges, api.Edge{Id: 9})
		ps := g.Props()
		for _, p := range ps {
			spoil(p.Val.Text, '#')
		}
		spoil(ps, api.Prop{Name: "no"})
		v, _ := g.Prop(vertex(1), "a")
		spoil(v.Text, '#')
		ids, _ := g.Around(1)
		spoil(ids, 9)
		spoil(g.Refs(delE(5)), vertex(9))
	}
	if !sameNet(g.Net(), net) || !sameProps(g.Props(), props) {
		t.Errorf("%v, %v", g.Net(), g.Props())
	}
	around(t, g, 1, 5, 6)
}

func TestListsOfAnAnswerShareNothing(t *testing.T) {
	g := made(t, addV(1), prop(vertex(1), "a", text("xy")), prop(vertex(1), "b", text("xy")))
	ps := g.Props()
	spoil(ps[0].Val.Text, '#')
	if string(ps[1].Val.Text) != "xy" {
		t.Errorf("Props = %q", ps[1].Val.Text)
	}
}

func TestClonesShareNothing(t *testing.T) {
	r := rand.New(rand.NewPCG(9, 9))
	g := graph.New()
	for range 200 {
		g.Do(randomWrite(r))
	}
	net, props := g.Net(), g.Props()
	c := g.Clone()
	if !sameNet(c.Net(), net) || !sameProps(c.Props(), props) {
		t.Fatalf("Clone: %v, %v", c.Net(), c.Props())
	}
	for range 400 {
		c.Do(randomWrite(r))
	}
	if !sameNet(g.Net(), net) || !sameProps(g.Props(), props) {
		t.Errorf("the clone's writes changed the first")
	}
	net, props = c.Net(), c.Props()
	for range 400 {
		g.Do(randomWrite(r))
	}
	if !sameNet(c.Net(), net) || !sameProps(c.Props(), props) {
		t.Errorf("the first's writes changed the clone")
	}
}
