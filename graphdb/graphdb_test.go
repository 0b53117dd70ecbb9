package graphdb_test

import (
	"bytes"
	"math"
	"slices"
	"strings"
	"testing"

	"skein/api"
	"skein/disk"
	"skein/graph"
	"skein/graphdb"
	"skein/keys"
	"skein/plain"
	"skein/store"
)

func vertex(id int) api.Ref { return api.Ref{Id: id} }
func edge(id int) api.Ref   { return api.Ref{Edge: true, Id: id} }

func addV(id int) api.Write { return api.Write{Kind: api.WAddV, Id: id} }
func delV(id int) api.Write { return api.Write{Kind: api.WDelV, Id: id} }
func delE(id int) api.Write { return api.Write{Kind: api.WDelE, Id: id} }
func addE(id, u, v int, w int64) api.Write {
	return api.Write{Kind: api.WAddE, Id: id, U: u, V: v, W: w}
}
func prop(of api.Ref, name string, v api.Value) api.Write {
	return api.Write{Kind: api.WProp, Of: of, Name: name, Val: v}
}
func unset(of api.Ref, name string) api.Write {
	return api.Write{Kind: api.WUnset, Of: of, Name: name}
}

func number(n int64) api.Value { return api.Value{Kind: api.VInt, Int: n} }
func text(s string) api.Value  { return api.Value{Kind: api.VText, Text: []byte(s)} }

// about is a question about one vertex or two.
func about(kind int, ids ...int) api.Query {
	q := api.Query{Kind: kind}
	if len(ids) > 0 {
		q.U = ids[0]
	}
	if len(ids) > 1 {
		q.V = ids[1]
	}
	return q
}

// usual is what most databases here are made with.
var usual = api.Conf{Log: 60, Frames: 4}

func open(t *testing.T, d *disk.Disk, conf api.Conf) *graphdb.DB {
	t.Helper()
	b, e := graphdb.Open(d, conf)
	if b == nil || e != api.OK {
		t.Fatalf("Open = %v, %d", b, e)
	}
	return b
}

// fresh is a database on an empty disk.
func fresh(t *testing.T) (*disk.Disk, *graphdb.DB) {
	t.Helper()
	d := disk.New(200)
	return d, open(t, d, usual)
}

// want holds an error against the one that is wanted.
func want(t *testing.T, what string, got, want api.Errno) {
	t.Helper()
	if got != want {
		t.Fatalf("%s = %d, want %d", what, got, want)
	}
}

func begin(t *testing.T, b *graphdb.DB, wanted int) {
	t.Helper()
	if n, e := b.Begin(); n != wanted || e != api.OK {
		t.Fatalf("Begin = %d, %d, want %d", n, e, wanted)
	}
}

// write: these writes of a transaction go well.
func write(t *testing.T, b *graphdb.DB, n int, ws ...api.Write) {
	t.Helper()
	for _, w := range ws {
		if e := b.Write(n, w); e != api.OK {
			t.Fatalf("Write(%d, %+v) = %d", n, w, e)
		}
	}
}

func commit(t *testing.T, b *graphdb.DB, n int, wanted int64) {
	t.Helper()
	if time, e := b.Commit(n); time != wanted || e != api.OK {
		t.Fatalf("Commit(%d) = %d, %d, want %d", n, time, e, wanted)
	}
}

// refused: a commit is answered with this error, changes nothing, and the transaction is over.
func refused(t *testing.T, b *graphdb.DB, n int, wanted api.Errno) {
	t.Helper()
	last, net, props := b.Last(), b.Net(), b.Props()
	if time, e := b.Commit(n); time != 0 || e != wanted {
		t.Fatalf("Commit(%d) = %d, %d, want %d", n, time, e, wanted)
	}
	if b.Last() != last || !sameNet(b.Net(), net) || !sameProps(b.Props(), props) {
		t.Fatalf("Commit(%d) = %d has changed the head", n, wanted)
	}
	if slices.Contains(b.Live(), n) {
		t.Fatalf("behind Commit(%d) = %d the transaction is under way", n, wanted)
	}
}

// done is a transaction by itself.
func done(t *testing.T, b *graphdb.DB, ws ...api.Write) int64 {
	t.Helper()
	n, e := b.Begin()
	want(t, "Begin", e, api.OK)
	write(t, b, n, ws...)
	time, e := b.Commit(n)
	want(t, "Commit", e, api.OK)
	return time
}

func ask(t *testing.T, b *graphdb.DB, n int, q api.Query, wanted api.Answer) {
	t.Helper()
	if a := b.Ask(n, q); !sameAnswer(a, wanted) {
		t.Fatalf("Ask(%d, %+v) = %+v, want %+v", n, q, a, wanted)
	}
}

func live(t *testing.T, b *graphdb.DB, wanted ...int) {
	t.Helper()
	if got := b.Live(); !slices.Equal(got, wanted) {
		t.Fatalf("Live = %v, want %v", got, wanted)
	}
}

func sameNet(a, b api.Net) bool {
	return slices.Equal(a.Verts, b.Verts) && slices.Equal(a.Edges, b.Edges)
}

func sameValue(a, b api.Value) bool {
	return a.Kind == b.Kind && a.Int == b.Int && a.C == b.C && bytes.Equal(a.Text, b.Text)
}

func sameProps(a, b []api.Prop) bool {
	return slices.EqualFunc(a, b, func(p, q api.Prop) bool {
		return p.Of == q.Of && p.Name == q.Name && sameValue(p.Val, q.Val)
	})
}

func sameAnswer(a, b api.Answer) bool {
	return a.Err == b.Err && a.Yes == b.Yes && a.Int == b.Int && a.C == b.C && a.Edge == b.Edge && sameValue(a.Val, b.Val) &&
		!math.Signbit(real(a.C)) && !math.Signbit(imag(a.C)) &&
		slices.Equal(a.Ids, b.Ids) && slices.Equal(a.Verts, b.Verts) && slices.Equal(a.Edges, b.Edges)
}

// is holds the head against a graph.
func is(t *testing.T, b *graphdb.DB, last int64, g *graph.Graph) {
	t.Helper()
	if b.Last() != last {
		t.Fatalf("Last = %d, want %d", b.Last(), last)
	}
	if net := b.Net(); !sameNet(net, g.Net()) {
		t.Fatalf("Net = %v, want %v", net, g.Net())
	}
	if props := b.Props(); !sameProps(props, g.Props()) {
		t.Fatalf("Props = %v, want %v", props, g.Props())
	}
}

// made is a graph by these writes.
func made(t *testing.T, ws ...api.Write) *graph.Graph {
	t.Helper()
	g := graph.New()
	for _, w := range ws {
		if e := g.Do(w); e != api.OK {
			t.Fatalf("Do(%+v) = %d", w, e)
		}
	}
	return g
}

// sees holds all that a transaction may ask of a few elements against a graph.
func sees(t *testing.T, b *graphdb.DB, n int, g *graph.Graph) {
	t.Helper()
	for kind := range 13 {
		for u := range 8 {
			for v := range 4 {
				q := api.Query{Kind: kind, U: u, V: v, Of: api.Ref{Edge: v%2 == 0, Id: u}, Name: "ab"[v/2 : v/2+1]}
				ask(t, b, n, q, plain.Ask(g, q))
			}
		}
	}
}

func TestExample(t *testing.T) {
	d, b := fresh(t)
	begin(t, b, 1)
	write(t, b, 1, addV(1), addV(2), addE(5, 1, 2, 3))
	commit(t, b, 1, 1)
	begin(t, b, 2)
	begin(t, b, 3)
	write(t, b, 2, addE(6, 1, 2, 1), addE(7, 1, 2, 1))
	write(t, b, 3, addE(6, 1, 2, 1), addE(7, 1, 2, 1))
	commit(t, b, 2, 2)
	refused(t, b, 3, api.ErrConflict)
	d.On()
	b = open(t, d, usual)
	begin(t, b, 1)
	ask(t, b, 1, about(api.QWeight), api.Answer{Int: 1})
}

// P23.1: of an empty disk nothing is to be told.
func TestNew(t *testing.T) {
	_, b := fresh(t)
	is(t, b, 0, graph.New())
	live(t, b)
	begin(t, b, 1)
	sees(t, b, 1, graph.New())
	live(t, b, 1)
	commit(t, b, 1, 0)
	want(t, "Check", b.Check(), api.OK)
	if n, e := b.Sweep(); n != 0 || e != api.OK {
		t.Fatalf("Sweep = %d, %d", n, e)
	}
	is(t, b, 0, graph.New())
	live(t, b)
}

// P23.1: numbers of transactions, and how many there may be at once.
func TestTransactions(t *testing.T) {
	_, b := fresh(t)
	for n := 1; n <= api.MaxTxns; n++ {
		begin(t, b, n)
	}
	for range 2 {
		if n, e := b.Begin(); n != 0 || e != api.ErrTxns {
			t.Fatalf("Begin = %d, %d", n, e)
		}
	}
	want(t, "Abort", b.Abort(3), api.OK)
	begin(t, b, 9)
	commit(t, b, 1, 0)
	begin(t, b, 10)
	live(t, b, 2, 4, 5, 6, 7, 8, 9, 10)
	write(t, b, 10, addV(1))
	commit(t, b, 10, 1)
	write(t, b, 9, addV(1))
	refused(t, b, 9, api.ErrConflict)
	live(t, b, 2, 4, 5, 6, 7, 8)
	begin(t, b, 11)
	begin(t, b, 12)
	if n, e := b.Begin(); n != 0 || e != api.ErrTxns {
		t.Fatalf("Begin = %d, %d", n, e)
	}
}

// isNone: no such transaction is under way, whatever is asked of it.
func isNone(t *testing.T, b *graphdb.DB, n int, wanted api.Errno) {
	t.Helper()
	want(t, "Write", b.Write(n, addV(1)), wanted)
	want(t, "Write", b.Write(n, api.Write{}), wanted)
	for kind := range 13 {
		ask(t, b, n, about(kind, 1, 2), api.Answer{Err: wanted})
	}
	if time, e := b.Commit(n); time != 0 || e != wanted {
		t.Fatalf("Commit(%d) = %d, %d", n, time, e)
	}
	want(t, "Abort", b.Abort(n), wanted)
}

// P23.1: ErrNoTxn, of numbers that never were, and of those that are over, in each way.
func TestNoTxn(t *testing.T) {
	_, b := fresh(t)
	isNone(t, b, 1, api.ErrNoTxn)
	begin(t, b, 1)
	begin(t, b, 2)
	begin(t, b, 3)
	begin(t, b, 4)
	begin(t, b, 5)
	write(t, b, 2, addV(7))
	write(t, b, 4, addV(7))
	commit(t, b, 1, 0)
	commit(t, b, 2, 1)
	want(t, "Abort", b.Abort(3), api.OK)
	refused(t, b, 4, api.ErrConflict)
	for _, n := range []int{0, -1, math.MinInt, 1, 2, 3, 4, 6, 7, math.MaxInt} {
		isNone(t, b, n, api.ErrNoTxn)
	}
	live(t, b, 5)
	is(t, b, 1, made(t, addV(7)))
}

// P23.1: each transaction sees the head as it was at its beginning, with its own writes over it.
func TestSees(t *testing.T) {
	_, b := fresh(t)
	none := graph.New()
	begin(t, b, 1)
	first := []api.Write{addV(1), addV(2), addE(5, 1, 2, 3), prop(vertex(1), "a", number(4))}
	if done(t, b, first...) != 1 {
		t.Fatal("the first commit isn't 1")
	}
	begin(t, b, 3)
	begin(t, b, 4)
	second := slices.Clip(append(first, addV(3), addE(1, 2, 3, 4), addE(2, 1, 3, 1), prop(edge(5), "b", text("x"))))
	write(t, b, 3, second[len(first):]...)
	sees(t, b, 1, none)
	sees(t, b, 3, made(t, second...))
	sees(t, b, 4, made(t, first...))
	commit(t, b, 3, 2)
	begin(t, b, 5)
	third := append(second, delE(2))
	write(t, b, 5, delE(2))
	want(t, "Write", b.Write(5, delE(2)), api.ErrNotFound)
	for range 2 {
		sees(t, b, 1, none)
		sees(t, b, 4, made(t, first...))
		sees(t, b, 5, made(t, third...))
		want(t, "Check", b.Check(), api.OK)
		if _, e := b.Sweep(); e != api.OK {
			t.Fatalf("Sweep = %d", e)
		}
	}
	is(t, b, 2, made(t, second...))
	write(t, b, 1, addV(9))
	sees(t, b, 1, made(t, addV(9)))
	commit(t, b, 1, 3)
	is(t, b, 3, made(t, append(second, addV(9))...))
	commit(t, b, 5, 4)
	commit(t, b, 4, 1)
	begin(t, b, 6)
	sees(t, b, 6, made(t, append(third, addV(9))...))
}

// P23.1: behind a write that is refused the transaction goes on as if that hadn't been; it has touched nothing by it.
func TestWrongWrites(t *testing.T) {
	_, b := fresh(t)
	base := []api.Write{addV(1), addV(2), addE(5, 1, 2, 3)}
	done(t, b, base...)
	wrong := map[api.Errno][]api.Write{
		api.ErrArg:      {{}, {Kind: 7}, addV(0), delV(-1), delE(api.MaxId + 1), addE(0, 1, 2, 3), addE(9, 1, 0, -1), prop(vertex(0), "", number(1)), unset(edge(0), "a")},
		api.ErrExists:   {addV(1), addE(5, 1, 2, 3)},
		api.ErrNotFound: {delV(3), delE(1), addE(9, 1, 3, 0), prop(vertex(3), "a", number(1)), unset(vertex(1), "a")},
		api.ErrInUse:    {delV(1), delV(2)},
		api.ErrWeight:   {addE(9, 1, 2, -1), addE(9, 8, 8, api.MaxWeight+1)},
		api.ErrValue:    {prop(vertex(1), "A", number(1)), prop(vertex(1), "a", api.Value{}), unset(edge(5), "")},
	}
	begin(t, b, 2)
	for e, ws := range wrong {
		for _, w := range ws {
			want(t, "Write", b.Write(2, w), e)
		}
	}
	sees(t, b, 2, made(t, base...))
	base = append(base, prop(vertex(1), "a", number(1)), addV(3), prop(vertex(2), "b", number(2)), prop(edge(5), "a", number(3)))
	done(t, b, base[3:]...) // touches all that was tried in vain
	commit(t, b, 2, 1)
	begin(t, b, 4)
	write(t, b, 4, addV(4))
	want(t, "Write", b.Write(4, addV(1)), api.ErrExists)
	want(t, "Write", b.Write(4, delV(2)), api.ErrInUse)
	commit(t, b, 4, 3)
	is(t, b, 3, made(t, append(base, addV(4))...))
}

// P23.1: a transaction that has written nothing has its start as its time; one whose writes take back one another has a time of its own.
func TestCommitOfNothing(t *testing.T) {
	d, b := fresh(t)
	begin(t, b, 1)
	done(t, b, addV(1))
	begin(t, b, 3)
	done(t, b, addV(2), delV(2))
	is(t, b, 2, made(t, addV(1)))
	begin(t, b, 5)
	done(t, b, addV(3))
	write(t, b, 5, prop(vertex(1), "a", number(1)), unset(vertex(1), "a"))
	commit(t, b, 1, 0)
	commit(t, b, 3, 1)
	commit(t, b, 5, 4)
	is(t, b, 4, made(t, addV(1), addV(3)))
	d.On()
	b = open(t, d, usual)
	is(t, b, 4, made(t, addV(1), addV(3)))
	begin(t, b, 1)
	commit(t, b, 1, 4)
}

// P23.2: of two transactions that have touched an element in common the second to commit is refused, whichever that is.
func TestConflicts(t *testing.T) {
	base := []api.Write{addV(1), addV(2), addV(3), addV(4), addE(5, 1, 2, 3), addE(6, 3, 3, 0), prop(vertex(1), "a", number(1)), prop(edge(5), "a", number(1))}
	for _, x := range []struct {
		a, b     []api.Write
		conflict bool
	}{
		{[]api.Write{addV(9)}, []api.Write{addV(9)}, true},
		{[]api.Write{addV(9)}, []api.Write{addV(8)}, false},
		{[]api.Write{addV(9)}, []api.Write{prop(edge(6), "a", number(1))}, false},
		{[]api.Write{addE(9, 1, 1, 0)}, []api.Write{addE(8, 1, 4, 0)}, true},
		{[]api.Write{addE(9, 1, 1, 0)}, []api.Write{addE(9, 4, 4, 0)}, true},
		{[]api.Write{addE(9, 1, 1, 0)}, []api.Write{addE(8, 4, 4, 0)}, false},
		{[]api.Write{delE(5)}, []api.Write{prop(vertex(2), "a", number(1))}, true},
		{[]api.Write{delE(5)}, []api.Write{prop(vertex(3), "a", number(1))}, false},
		{[]api.Write{delE(6)}, []api.Write{delV(4)}, false},
		{[]api.Write{delV(4)}, []api.Write{addE(9, 1, 4, 0)}, true},
		{[]api.Write{delV(4)}, []api.Write{prop(vertex(4), "a", number(1))}, true},
		{[]api.Write{prop(vertex(1), "a", number(2))}, []api.Write{prop(vertex(1), "b", number(2))}, true},
		{[]api.Write{prop(vertex(1), "a", number(2))}, []api.Write{prop(edge(5), "a", number(2))}, false},
		{[]api.Write{prop(edge(5), "a", number(2))}, []api.Write{addE(9, 1, 2, 0)}, false},
		{[]api.Write{prop(edge(5), "a", number(2))}, []api.Write{delE(5)}, true},
		{[]api.Write{unset(vertex(1), "a")}, []api.Write{addE(9, 1, 2, 0)}, true},
		{[]api.Write{addV(9), delV(9)}, []api.Write{addV(9), addV(8)}, true},
		{[]api.Write{unset(edge(5), "a"), addV(7)}, []api.Write{addV(8), addV(9), unset(edge(5), "a")}, true},
		{nil, []api.Write{addV(9)}, false},
		{nil, nil, false},
	} {
		for _, swapped := range []bool{false, true} {
			first, second := x.a, x.b
			if swapped {
				first, second = second, first
			}
			_, b := fresh(t)
			done(t, b, base...)
			begin(t, b, 2)
			begin(t, b, 3)
			write(t, b, 2, second...)
			write(t, b, 3, first...)
			if _, e := b.Commit(3); e != api.OK {
				t.Fatalf("the first = %d", e)
			}
			if x.conflict {
				refused(t, b, 2, api.ErrConflict)
				second = nil
			} else if _, e := b.Commit(2); e != api.OK {
				t.Fatalf("%v behind %v: Commit = %d", second, first, e)
			}
			g := made(t, slices.Concat(base, first, second)...)
			is(t, b, b.Last(), g)
			begin(t, b, 4)
			sees(t, b, 4, g)
		}
	}
}

// P23.2: there is no conflict with what was committed ahead of one's beginning, nor with what was given up.
func TestNoConflict(t *testing.T) {
	_, b := fresh(t)
	begin(t, b, 1)
	begin(t, b, 2)
	begin(t, b, 3)
	write(t, b, 1, addV(1))
	write(t, b, 2, addV(1))
	write(t, b, 3, addV(1), addV(2))
	want(t, "Abort", b.Abort(2), api.OK)
	commit(t, b, 1, 1)
	refused(t, b, 3, api.ErrConflict)
	begin(t, b, 4)
	write(t, b, 4, addV(2), prop(vertex(1), "a", number(1)))
	commit(t, b, 4, 2)
	is(t, b, 2, made(t, addV(1), addV(2), prop(vertex(1), "a", number(1))))
}

// full is a database whose head has as many vertices, edges and properties as may be but for one of each, and those writes.
func full(t *testing.T) (*disk.Disk, api.Conf, []api.Write) {
	t.Helper()
	conf := api.Conf{Log: 400, Frames: 16}
	d := disk.New(2400)
	b := open(t, d, conf)
	var ws []api.Write
	for id := 1; id < api.MaxVerts; id++ {
		ws = append(ws, addV(id))
	}
	for id := 1; id < api.MaxEdges; id++ {
		ws = append(ws, addE(id, id, 1+id%9, int64(id)))
	}
	for id := 1; id < api.MaxVerts; id++ {
		ws = append(ws, prop(vertex(id), "a", number(1)), prop(edge(id), "a", number(1)))
	}
	ws = append(ws, prop(vertex(1), "b", number(1)))
	for part := range slices.Chunk(ws, 150) {
		done(t, b, part...)
	}
	return d, conf, ws
}

// ErrMany: two transactions have room for what each writes, but not for what both do; nor is there for what goes again later on.
func TestMany(t *testing.T) {
	d, conf, ws := full(t)
	for _, pair := range [][2][]api.Write{
		{{addV(3000)}, {addV(3001)}},
		{{addE(3000, 1, 1, 0)}, {addE(3001, 2, 2, 0)}},
		{{prop(vertex(1), "c", number(1))}, {prop(edge(1), "c", number(1))}},
		{{addV(3000)}, {addV(3001), delV(3001)}},
		{{addE(3000, 1, 1, 0)}, {addE(3001, 2, 2, 0), delE(3001)}},
		{{addV(3000)}, {addV(3001), prop(edge(7), "a", number(2)), delE(9)}},
	} {
		copied := disk.Load(d.All())
		b := open(t, copied, conf)
		last := b.Last()
		for n := 1; n <= 4; n++ {
			begin(t, b, n)
		}
		also := prop(vertex(33), "a", number(7))
		write(t, b, 1, append(pair[0], also)...)
		write(t, b, 2, pair[1]...)
		write(t, b, 3, prop(edge(11), "a", number(7)))
		write(t, b, 4, append(pair[1], also)...)
		commit(t, b, 1, last+1)
		refused(t, b, 2, api.ErrMany)
		commit(t, b, 3, last+2)
		refused(t, b, 4, api.ErrConflict) // ahead of ErrMany
		g := made(t, slices.Concat(ws, pair[0], []api.Write{also, prop(edge(11), "a", number(7))})...)
		is(t, b, last+2, g)
		copied.On()
		b = open(t, copied, conf)
		is(t, b, last+2, g)
		begin(t, b, 1)
		for _, q := range []api.Query{about(api.QWeight), about(api.QForest), about(api.QSpan, 3), about(api.QPathSum, 2, 8)} {
			ask(t, b, 1, q, plain.Ask(g, q))
		}
	}
}

// ErrMany is told ahead of ErrDiskFull and ErrLogFull.
func TestManyAheadOfNoRoom(t *testing.T) {
	conf := api.Conf{Log: 100, Frames: 16}
	d := disk.New(conf.Log + 250)
	b := open(t, d, conf)
	for from := 1; from < api.MaxVerts; from += 23 {
		var ws []api.Write
		for id := from; id < from+23; id++ {
			ws = append(ws, addV(id))
		}
		done(t, b, ws...)
	}
	last := b.Last()
	var many []api.Write
	for id := 1; id < 1500; id++ {
		many = append(many, prop(vertex(id), "a", text(strings.Repeat("x", 60))))
	}
	n, _ := b.Begin()
	m, _ := b.Begin()
	write(t, b, n, addV(5000))
	write(t, b, m, slices.Concat(many, []api.Write{addV(5001)})...)
	commit(t, b, n, last+1)
	refused(t, b, m, api.ErrMany)
	n, _ = b.Begin()
	write(t, b, n, many...)
	if _, e := b.Commit(n); e != api.ErrDiskFull && e != api.ErrLogFull {
		t.Fatalf("Commit = %d", e)
	}
}

// P23.1: where there is no room for what was written nothing is changed, and all goes on.
func TestNoRoom(t *testing.T) {
	for wanted, conf := range map[api.Errno]api.Conf{api.ErrDiskFull: {Log: 300, Frames: 4}, api.ErrLogFull: {Log: 14, Frames: 4}} {
		pages := map[api.Errno]int{api.ErrDiskFull: 12, api.ErrLogFull: 200}[wanted]
		d := disk.New(conf.Log + pages)
		b := open(t, d, conf)
		g := made(t, addV(1), addV(2), addE(5, 1, 2, 3))
		done(t, b, addV(1), addV(2), addE(5, 1, 2, 3))
		for range 3 {
			n, _ := b.Begin()
			for id := 10; id < 110; id++ {
				write(t, b, n, addV(id), prop(vertex(id), "a", text(strings.Repeat("x", 40))))
			}
			refused(t, b, n, wanted)
			n, _ = b.Begin()
			sees(t, b, n, g)
			commit(t, b, n, b.Last())
			done(t, b, prop(vertex(1), "a", number(b.Last())))
			g = made(t, addV(1), addV(2), addE(5, 1, 2, 3), prop(vertex(1), "a", number(b.Last()-1)))
			is(t, b, b.Last(), g)
		}
		last := b.Last()
		d.On()
		b = open(t, d, conf)
		is(t, b, last, g)
	}
}

// table is a database whose table was applied to at these times.
func table(t *testing.T, rows func(i int) []api.Row, times ...int64) (*disk.Disk, *graphdb.DB, api.Errno) {
	t.Helper()
	d := disk.New(200)
	s, e := store.Open(d, usual)
	want(t, "store.Open", e, api.OK)
	for i, time := range times {
		want(t, "Apply", s.Apply(time, rows(i)...), api.OK)
	}
	b, e := graphdb.Open(d, usual)
	return d, b, e
}

// vertexRow is the row of a vertex.
func vertexRow(id int) api.Row {
	key, _ := keys.Elem(vertex(id))
	return api.Row{Key: key}
}

// ErrLong: behind MaxTime there is no time; but what has written nothing needs none.
func TestLastTimes(t *testing.T) {
	rows := func(i int) []api.Row { return []api.Row{vertexRow(1 + i)} }
	d, b, e := table(t, rows, api.MaxTime-1)
	want(t, "Open", e, api.OK)
	is(t, b, api.MaxTime-1, made(t, addV(1)))
	for n := 1; n <= 4; n++ {
		begin(t, b, n)
	}
	write(t, b, 1, addV(2))
	write(t, b, 2, addV(2))
	write(t, b, 3, addV(3))
	commit(t, b, 1, api.MaxTime)
	refused(t, b, 2, api.ErrConflict)
	refused(t, b, 3, api.ErrLong)
	commit(t, b, 4, api.MaxTime-1)
	for range 2 {
		is(t, b, api.MaxTime, made(t, addV(1), addV(2)))
		n, _ := b.Begin()
		write(t, b, n, addV(3))
		refused(t, b, n, api.ErrLong)
		n, _ = b.Begin()
		commit(t, b, n, api.MaxTime)
		if _, e := b.Sweep(); e != api.OK {
			t.Fatalf("Sweep = %d", e)
		}
		d.On()
		b = open(t, d, usual)
	}
}

// P23.1: tables that were applied to at other times than a database does.
func TestOddTimes(t *testing.T) {
	rows := func(i int) []api.Row { return []api.Row{vertexRow(1 + i)} }
	_, b, e := table(t, rows, 0)
	want(t, "Open", e, api.OK)
	is(t, b, 0, made(t, addV(1)))
	begin(t, b, 1)
	commit(t, b, 1, 0)
	if done(t, b, addV(2)) != 1 {
		t.Fatal("behind the time 0 comes 1")
	}
	_, b, e = table(t, rows, 3, 77)
	want(t, "Open", e, api.OK)
	is(t, b, 77, made(t, addV(1), addV(2)))
	if done(t, b, addV(3)) != 78 {
		t.Fatal("behind the time 77 comes 78")
	}
}

// Open's errors: those of the table, and of a head that is none.
func TestOpen(t *testing.T) {
	for _, log := range []int{-1, 0, 20, 21, math.MaxInt} {
		if b, e := graphdb.Open(disk.New(20), api.Conf{Log: log, Frames: 4}); b != nil || e != api.ErrArg {
			t.Errorf("Log %d: Open = %v, %d", log, b, e)
		}
	}
	if b, e := graphdb.Open(disk.New(7), api.Conf{Log: 6, Frames: 4}); b != nil || e != api.ErrDiskFull {
		t.Errorf("one page: Open = %v, %d", b, e)
	}
	d := disk.New(40)
	d.Plan(api.Fate{Step: 1, Kind: api.FBefore})
	for range 2 {
		if b, e := graphdb.Open(d, api.Conf{Log: 6, Frames: 4}); b != nil || e != api.ErrPower {
			t.Errorf("no power: Open = %v, %d", b, e)
		}
	}
	noise := bytes.Repeat([]byte{1, 2, 3}, 4000)
	if b, e := graphdb.Open(disk.Load(noise), api.Conf{Log: 6, Frames: 4}); b != nil || e != api.ErrCorrupt {
		t.Errorf("noise: Open = %v, %d", b, e)
	}
	loose, _ := keys.Prop(vertex(7), "a")
	wrong := func(i int) []api.Row {
		if i == 1 {
			return []api.Row{{Key: loose, Gone: true}, vertexRow(1)}
		}
		return []api.Row{{Key: loose, Val: []byte("\x01\x02")}}
	}
	if _, b, e := table(t, wrong, 4); b != nil || e != api.ErrCorrupt {
		t.Errorf("a head that is none: Open = %v, %d", b, e)
	}
	_, b, e := table(t, wrong, 4, 5) // at Last it is one
	want(t, "Open", e, api.OK)
	is(t, b, 5, made(t, addV(1)))
}

// isDead: every call answers ErrDead, but for those that tell what the head was last.
func isDead(t *testing.T, b *graphdb.DB, last int64, g *graph.Graph, under ...int) {
	t.Helper()
	for range 2 {
		if n, e := b.Begin(); n != 0 || e != api.ErrDead {
			t.Fatalf("Begin = %d, %d", n, e)
		}
		for n := range 10 {
			isNone(t, b, n, api.ErrDead)
		}
		want(t, "Check", b.Check(), api.ErrDead)
		if n, e := b.Sweep(); n != 0 || e != api.ErrDead {
			t.Fatalf("Sweep = %d, %d", n, e)
		}
		is(t, b, last, g)
		live(t, b, under...)
	}
}

// A step of any call that is refused: the database is dead, and to be opened anew.
func TestDead(t *testing.T) {
	base := []api.Write{addV(1), addV(2), addE(5, 1, 2, 3), prop(vertex(1), "a", text("x"))}
	g := made(t, base...)
	for kind, wanted := range map[int]api.Errno{api.FFail: api.ErrDisk, api.FBefore: api.ErrPower, api.FBehind: api.ErrPower} {
		for what, call := range map[string]func(b *graphdb.DB) (int64, api.Errno){
			"Commit": func(b *graphdb.DB) (int64, api.Errno) { return b.Commit(4) },
			"Check":  func(b *graphdb.DB) (int64, api.Errno) { return 0, b.Check() },
			"Sweep": func(b *graphdb.DB) (int64, api.Errno) {
				n, e := b.Sweep()
				return int64(n), e
			},
		} {
			d, b := fresh(t)
			done(t, b, addV(9), delV(9))
			done(t, b, base...)
			begin(t, b, 3)
			begin(t, b, 4)
			write(t, b, 4, addV(3))
			done(t, b, prop(vertex(1), "b", number(1)))
			done(t, b, unset(vertex(1), "b"))
			if what == "Sweep" {
				want(t, "Abort", b.Abort(3), api.OK)
				want(t, "Abort", b.Abort(4), api.OK)
			}
			d.Plan(api.Fate{Step: d.Steps() + 1, Kind: kind})
			if n, e := call(b); n != 0 || e != wanted {
				t.Fatalf("%s = %d, %d, want %d", what, n, e, wanted)
			}
			isDead(t, b, 4, g, map[string][]int{"Commit": {3}, "Check": {3, 4}}[what]...)
			d.On()
			b = open(t, d, usual)
			is(t, b, 4, g)
			live(t, b)
		}
	}
}

// Behind an error that isn't a step's nothing is dead: no call but Commit, Check and Sweep meets the disk.
func TestNoStepIsMade(t *testing.T) {
	d, b := fresh(t)
	done(t, b, addV(1), addV(2), addE(5, 1, 2, 3))
	d.Plan(api.Fate{Step: d.Steps() + 1, Kind: api.FBefore})
	steps := d.Steps()
	begin(t, b, 2)
	begin(t, b, 3)
	write(t, b, 2, addV(3), delE(5))
	sees(t, b, 3, made(t, addV(1), addV(2), addE(5, 1, 2, 3)))
	want(t, "Abort", b.Abort(2), api.OK)
	commit(t, b, 3, 1)
	is(t, b, 1, made(t, addV(1), addV(2), addE(5, 1, 2, 3)))
	if d.Steps() != steps {
		t.Fatalf("%d steps were made", d.Steps()-steps)
	}
}

// versions is how many versions there are in the table on a disk.
func versions(t *testing.T, d *disk.Disk, conf api.Conf) int {
	t.Helper()
	s, e := store.Open(disk.Load(d.All()), conf)
	want(t, "store.Open", e, api.OK)
	n, e := s.Versions()
	want(t, "Versions", e, api.OK)
	return n
}

// sweeps sweeps so many versions away, and leaves so many.
func sweeps(t *testing.T, d *disk.Disk, b *graphdb.DB, wanted, left int) {
	t.Helper()
	if n, e := b.Sweep(); n != wanted || e != api.OK {
		t.Fatalf("Sweep = %d, %d, want %d", n, e, wanted)
	}
	if n := versions(t, d, usual); n != left {
		t.Fatalf("behind a Sweep there are %d versions, want %d", n, left)
	}
}

// Sweep: the least start of those under way says what is left.
func TestSweep(t *testing.T) {
	d, b := fresh(t)
	sweeps(t, d, b, 0, 0)
	done(t, b, addV(1), prop(vertex(1), "a", number(1))) // 1: two versions
	begin(t, b, 2)                                       // from 1
	done(t, b, prop(vertex(1), "a", number(2)))          // 2: one more
	begin(t, b, 4)                                       // from 2
	done(t, b, prop(vertex(1), "a", number(3)))          // 3: one more
	done(t, b, unset(vertex(1), "a"))                    // 4: one more
	sweeps(t, d, b, 0, 5)
	begin(t, b, 7) // from 4
	a := api.Query{Kind: api.QProp, Of: vertex(1), Name: "a"}
	ask(t, b, 2, a, api.Answer{Val: number(1)})
	commit(t, b, 2, 1)
	sweeps(t, d, b, 1, 4)
	ask(t, b, 4, a, api.Answer{Val: number(2)})
	want(t, "Abort", b.Abort(4), api.OK)
	sweeps(t, d, b, 3, 1)
	ask(t, b, 7, a, api.Answer{Err: api.ErrNotFound})
	done(t, b, delV(1))
	sweeps(t, d, b, 0, 2)
	commit(t, b, 7, 4)
	sweeps(t, d, b, 2, 0)
	is(t, b, 5, graph.New())
	d.On()
	b = open(t, d, usual)
	is(t, b, 5, graph.New())
}

// spoil writes over all that a list has, spare room too.
func spoil[T any](list []T, by T) {
	list = list[:cap(list)]
	for i := range list {
		list[i] = by
	}
}

// P23.5: what is handed in is neither changed nor kept.
func TestArguments(t *testing.T) {
	seeds := []int{5, 1, 4}
	conf := api.Conf{Log: 60, Frames: 4, Seeds: seeds[:2]}
	d := disk.New(200)
	b := open(t, d, conf)
	if !slices.Equal(seeds, []int{5, 1, 4}) {
		t.Fatalf("changed to %v", seeds)
	}
	spoil(seeds, 99)
	back := []byte("abcdef")
	begin(t, b, 1)
	write(t, b, 1, addV(1), prop(vertex(1), "a", api.Value{Kind: api.VText, Text: back[1:3]}))
	if string(back) != "abcdef" {
		t.Fatalf("changed to %q", back)
	}
	spoil(back, '#')
	g := made(t, addV(1), prop(vertex(1), "a", text("bc")))
	sees(t, b, 1, g)
	commit(t, b, 1, 1)
	is(t, b, 1, g)
	d.On()
	is(t, open(t, d, conf), 1, g)
}

// P23.5: what is answered is new memory.
func TestAnswers(t *testing.T) {
	_, b := fresh(t)
	ws := []api.Write{addV(1), addV(2), addV(3), addE(5, 1, 2, 3), addE(6, 3, 2, 1), prop(vertex(1), "a", text("xy")), prop(edge(5), "a", text("xy"))}
	done(t, b, ws...)
	g := made(t, ws...)
	begin(t, b, 2) // sees the head
	begin(t, b, 3)
	write(t, b, 3, addV(4))
	own := made(t, append(ws, addV(4))...)
	for range 2 {
		spoil(b.Live(), 99)
		net := b.Net()
		spoil(net.Verts, 99)
		spoil(net.Edges, api.Edge{Id: 99})
		props := b.Props()
		spoil(props[0].Val.Text, '#')
		if string(props[1].Val.Text) != "xy" {
			t.Fatalf("two properties share memory: %v", props)
		}
		spoil(props, api.Prop{})
		for n := 2; n <= 3; n++ {
			for _, q := range []api.Query{about(api.QNet), about(api.QAround, 2), about(api.QForest), {Kind: api.QProp, Of: vertex(1), Name: "a"}} {
				a := b.Ask(n, q)
				spoil(a.Ids, 99)
				spoil(a.Verts, 99)
				spoil(a.Edges, api.Edge{Id: 99})
				spoil(a.Val.Text, '#')
			}
		}
		is(t, b, 1, g)
		live(t, b, 2, 3)
		sees(t, b, 2, g)
		sees(t, b, 3, own)
	}
}
