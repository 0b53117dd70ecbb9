package engine_test

import (
	"bytes"
	"math"
	"slices"
	"strings"
	"testing"

	"skein/api"
	"skein/crc"
	"skein/disk"
	"skein/engine"
	"skein/graph"
	"skein/graphdb"
	"skein/plain"
)

func vertex(id int) api.Ref { return api.Ref{Id: id} }
func edge(id int) api.Ref   { return api.Ref{Edge: true, Id: id} }

func addV(id int) api.Write { return api.Write{Kind: api.WAddV, Id: id} }
func delV(id int) api.Write { return api.Write{Kind: api.WDelV, Id: id} }
func delE(id int) api.Write { return api.Write{Kind: api.WDelE, Id: id} }
func addE(id, u, v int, w int64) api.Write {
	return api.Write{Kind: api.WAddE, Id: id, U: u, V: v, W: w}
}
func prop(of api.Ref, name string, v api.Value) api.Write {
	return api.Write{Kind: api.WProp, Of: of, Name: name, Val: v}
}
func unset(of api.Ref, name string) api.Write {
	return api.Write{Kind: api.WUnset, Of: of, Name: name}
}

func number(n int64) api.Value { return api.Value{Kind: api.VInt, Int: n} }
func text(s string) api.Value  { return api.Value{Kind: api.VText, Text: []byte(s)} }

// about is a question about one vertex or two.
func about(kind int, ids ...int) api.Query {
	q := api.Query{Kind: kind}
	if len(ids) > 0 {
		q.U = ids[0]
	}
	if len(ids) > 1 {
		q.V = ids[1]
	}
	return q
}

func step(kind int) api.Step               { return api.Step{Kind: kind} }
func put(n int, w api.Write) api.Step      { return api.Step{Kind: api.XWrite, N: n, Put: w} }
func question(n int, q api.Query) api.Step { return api.Step{Kind: api.XAsk, N: n, Q: q} }
func end(n int) api.Step                   { return api.Step{Kind: api.XCommit, N: n} }
func giveUp(n int) api.Step                { return api.Step{Kind: api.XAbort, N: n} }
func plan(fates ...api.Fate) api.Step      { return api.Step{Kind: api.XPlan, Fates: fates} }
func crash(keeps ...int) api.Step          { return api.Step{Kind: api.XCrash, Keeps: keeps} }
func fails(after, kind int) api.Step       { return plan(api.Fate{Step: after, Kind: kind}) }
func echo(n int64) api.Echo                { return api.Echo{N: n} }
func wrong(e api.Errno) api.Echo           { return api.Echo{Err: e} }
func answer(a api.Answer) api.Echo         { return api.Echo{Err: a.Err, Ans: a} }
func noAnswer(e api.Errno) api.Echo        { return answer(api.Answer{Err: e}) }
func someConf(sectors, log, frames int) api.Conf {
	return api.Conf{Sectors: sectors, Log: log, Frames: frames}
}

// usual is what most engines here are made with.
var usual = someConf(200, 60, 4)

func open(t *testing.T, conf api.Conf) *engine.Engine {
	t.Helper()
	e, err := engine.Open(conf)
	if e == nil || err != api.OK {
		t.Fatalf("Open(%+v) = %v, %d", conf, e, err)
	}
	return e
}

func load(t *testing.T, data []byte, conf api.Conf) *engine.Engine {
	t.Helper()
	e, err := engine.Load(data, conf)
	if e == nil || err != api.OK {
		t.Fatalf("Load = %v, %d", e, err)
	}
	return e
}

// want does a step and holds its echo against the one that is wanted.
func want(t *testing.T, e *engine.Engine, s api.Step, wanted api.Echo) {
	t.Helper()
	if got := e.Do(s); !sameEcho(got, wanted) {
		t.Fatalf("Do(%+v) = %+v, want %+v", s, got, wanted)
	}
}

// write: these writes of a transaction go well.
func write(t *testing.T, e *engine.Engine, n int, ws ...api.Write) {
	t.Helper()
	for _, w := range ws {
		want(t, e, put(n, w), api.Echo{})
	}
}

// done is a transaction by itself: its number is n, its time is time.
func done(t *testing.T, e *engine.Engine, n int, time int64, ws ...api.Write) {
	t.Helper()
	want(t, e, step(api.XBegin), echo(int64(n)))
	write(t, e, n, ws...)
	want(t, e, end(n), echo(time))
}

func sameNet(a, b api.Net) bool {
	return slices.Equal(a.Verts, b.Verts) && slices.Equal(a.Edges, b.Edges)
}

func sameValue(a, b api.Value) bool {
	return a.Kind == b.Kind && a.Int == b.Int && a.C == b.C && bytes.Equal(a.Text, b.Text)
}

func sameProps(a, b []api.Prop) bool {
	return slices.EqualFunc(a, b, func(p, q api.Prop) bool {
		return p.Of == q.Of && p.Name == q.Name && sameValue(p.Val, q.Val)
	})
}

func sameAnswer(a, b api.Answer) bool {
	return a.Err == b.Err && a.Yes == b.Yes && a.Int == b.Int && a.C == b.C && a.Edge == b.Edge && sameValue(a.Val, b.Val) &&
		!math.Signbit(real(a.C)) && !math.Signbit(imag(a.C)) &&
		slices.Equal(a.Ids, b.Ids) && slices.Equal(a.Verts, b.Verts) && slices.Equal(a.Edges, b.Edges)
}

func sameEcho(a, b api.Echo) bool { return a.Err == b.Err && a.N == b.N && sameAnswer(a.Ans, b.Ans) }

// is holds what an engine that isn't down tells of the head against a graph.
func is(t *testing.T, e *engine.Engine, last int64, g *graph.Graph) {
	t.Helper()
	if e.Down() != api.OK {
		t.Fatalf("Down = %d", e.Down())
	}
	if e.Last() != last {
		t.Fatalf("Last = %d, want %d", e.Last(), last)
	}
	if net := e.Net(); !sameNet(net, g.Net()) {
		t.Fatalf("Net = %v, want %v", net, g.Net())
	}
	if props := e.Props(); !sameProps(props, g.Props()) {
		t.Fatalf("Props = %v, want %v", props, g.Props())
	}
}

// made is a graph by these writes.
func made(t *testing.T, ws ...api.Write) *graph.Graph {
	t.Helper()
	g := graph.New()
	for _, w := range ws {
		if e := g.Do(w); e != api.OK {
			t.Fatalf("Do(%+v) = %d", w, e)
		}
	}
	return g
}

// sees holds all that a transaction may ask of a few elements against a graph.
func sees(t *testing.T, e *engine.Engine, n int, g *graph.Graph) {
	t.Helper()
	for kind := range 13 {
		for u := range 8 {
			for v := range 4 {
				q := api.Query{Kind: kind, U: u, V: v, Of: api.Ref{Edge: v%2 == 0, Id: u}, Name: "ab"[v/2 : v/2+1]}
				want(t, e, question(n, q), answer(plain.Ask(g, q)))
			}
		}
	}
}

// isNone: no such transaction is under way, whatever it does.
func isNone(t *testing.T, e *engine.Engine, n int, wanted api.Errno) {
	t.Helper()
	want(t, e, put(n, addV(1)), wrong(wanted))
	want(t, e, put(n, api.Write{}), wrong(wanted))
	for kind := range 13 {
		want(t, e, question(n, about(kind, 1, 2)), noAnswer(wanted))
	}
	want(t, e, end(n), wrong(wanted))
	want(t, e, giveUp(n), wrong(wanted))
}

func TestExample(t *testing.T) {
	e := open(t, usual)
	want(t, e, step(api.XBegin), echo(1))
	write(t, e, 1, addV(1), addV(2), addE(5, 1, 2, 3))
	want(t, e, end(1), echo(1))
	want(t, e, crash(), api.Echo{})
	want(t, e, put(1, addV(3)), wrong(api.ErrNoTxn))
	want(t, e, step(api.XBegin), echo(2))
	want(t, e, question(2, about(api.QPathSum, 1, 2)), answer(api.Answer{C: 3 + 1i}))
	is(t, e, 1, made(t, addV(1), addV(2), addE(5, 1, 2, 3)))
}

// P24.1: of a new disk nothing is to be told.
func TestNew(t *testing.T) {
	e := open(t, usual)
	is(t, e, 0, graph.New())
	if n := len(e.Data()); n != 200*api.Sector {
		t.Fatalf("Data has %d bytes", n)
	}
	isNone(t, e, 1, api.ErrNoTxn)
	want(t, e, step(api.XCheck), api.Echo{})
	want(t, e, step(api.XSweep), api.Echo{})
	want(t, e, step(api.XBegin), echo(1))
	sees(t, e, 1, graph.New())
	want(t, e, end(1), echo(0))
	is(t, e, 0, graph.New())
}

// Open's errors are the database's, and no engine.
func TestOpen(t *testing.T) {
	for _, x := range []struct {
		conf   api.Conf
		wanted api.Errno
	}{
		{api.Conf{}, api.ErrArg},
		{someConf(200, 0, 4), api.ErrArg},
		{someConf(200, -1, 4), api.ErrArg},
		{someConf(200, 200, 4), api.ErrArg},
		{someConf(200, math.MaxInt, 4), api.ErrArg},
		{someConf(200, math.MinInt, 4), api.ErrArg},
		{someConf(0, 60, 4), api.ErrArg},
		{someConf(-1, 60, 4), api.ErrArg},
		{someConf(math.MinInt, 60, 4), api.ErrArg},
		{someConf(61, 60, 4), api.ErrDiskFull},
	} {
		if e, err := engine.Open(x.conf); e != nil || err != x.wanted {
			t.Errorf("Open(%+v) = %v, %d, want %d", x.conf, e, err, x.wanted)
		}
		if e, err := engine.Load(make([]byte, max(0, min(x.conf.Sectors, 4096))*api.Sector), x.conf); e != nil || err != x.wanted {
			t.Errorf("Load(%+v) = %v, %d, want %d", x.conf, e, err, x.wanted)
		}
		if echoes, err := engine.Play(x.conf, step(api.XBegin)); len(echoes) != 0 || err != x.wanted {
			t.Errorf("Play(%+v) = %v, %d, want %d", x.conf, echoes, err, x.wanted)
		}
	}
	for _, sectors := range []int{api.MaxSectors, api.MaxSectors + 1, math.MaxInt} {
		e := open(t, someConf(sectors, 60, 4))
		if n := len(e.Data()); n != api.MaxSectors*api.Sector {
			t.Errorf("%d sectors: Data has %d bytes", sectors, n)
		}
	}
	for _, frames := range []int{math.MinInt, -1, 0, 1, api.MaxFrames + 1, math.MaxInt} {
		e := open(t, someConf(200, 60, frames))
		done(t, e, 1, 1, addV(1))
		want(t, e, crash(), api.Echo{})
		is(t, e, 1, made(t, addV(1)))
	}
}

// Load: a disk of other bytes than were ever written; conf.Sectors doesn't count.
func TestLoad(t *testing.T) {
	for _, data := range [][]byte{nil, {}, {1}, make([]byte, api.Sector), bytes.Repeat([]byte{9}, 60*api.Sector)} {
		if e, err := engine.Load(data, usual); e != nil || err != api.ErrArg {
			t.Errorf("%d bytes: Load = %v, %d", len(data), e, err)
		}
	}
	if e, err := engine.Load(bytes.Repeat([]byte{9}, 200*api.Sector), usual); e != nil || err != api.ErrCorrupt {
		t.Errorf("noise: Load = %v, %d", e, err)
	}
	e := open(t, usual)
	ws := []api.Write{addV(1), addV(2), addE(5, 1, 2, 3), prop(edge(5), "a", text("x"))}
	done(t, e, 1, 1, ws...)
	want(t, e, step(api.XBegin), echo(2))
	write(t, e, 2, addV(3))
	for _, sectors := range []int{-1, 0, 3, 200, 4000} {
		conf := usual
		conf.Sectors = sectors
		other := load(t, e.Data(), conf)
		is(t, other, 1, made(t, ws...))
		if n := len(other.Data()); n != 200*api.Sector {
			t.Fatalf("Sectors %d: Data has %d bytes", sectors, n)
		}
		isNone(t, other, 2, api.ErrNoTxn)
		done(t, other, 1, 2, addV(4))
		want(t, other, crash(), api.Echo{})
		is(t, other, 2, made(t, append(ws, addV(4))...))
		sees(t, e, 2, made(t, append(ws, addV(3))...))
	}
	is(t, load(t, append(e.Data(), make([]byte, 1+api.Sector)...), usual), 1, made(t, ws...))
	zeros := load(t, make([]byte, (api.MaxSectors+2)*api.Sector), usual)
	is(t, zeros, 0, graph.New())
	if n := len(zeros.Data()); n != api.MaxSectors*api.Sector {
		t.Fatalf("Data has %d bytes", n)
	}
}

// Data is what the disk's sectors have, what is pending too, without power too.
func TestData(t *testing.T) {
	d := disk.New(usual.Sectors)
	b, _ := graphdb.Open(d, usual)
	e := open(t, usual)
	same := func(what string) {
		t.Helper()
		if !bytes.Equal(e.Data(), d.All()) {
			t.Fatalf("%s: Data isn't what the disk has", what)
		}
	}
	same("Open")
	n, _ := b.Begin()
	b.Write(n, addV(1))
	want(t, e, step(api.XBegin), echo(1))
	write(t, e, 1, addV(1))
	same("Write")
	d.Plan(api.Fate{Step: d.Steps() + 2, Kind: api.FBefore})
	b.Commit(n)
	want(t, e, fails(2, api.FBefore), api.Echo{})
	want(t, e, end(1), wrong(api.ErrPower))
	same("Commit")
	if len(d.Loose()) == 0 || d.Power() {
		t.Fatal("nothing is pending")
	}
	d.On()
	want(t, e, crash(), api.Echo{})
	if graphdb.Open(d, usual); bytes.Equal(e.Data(), make([]byte, len(e.Data()))) {
		t.Fatal("Data is empty")
	}
	same("Crash")
}

// All that isn't one of the nine kinds is ErrArg, and nothing is done.
func TestWrongKinds(t *testing.T) {
	e := open(t, usual)
	wrongKinds := func() {
		t.Helper()
		for _, kind := range []int{0, -1, 10, math.MinInt, math.MaxInt} {
			s := api.Step{Kind: kind, N: 1, Put: addV(1), Q: about(api.QNet), Fates: []api.Fate{{Step: 1, Kind: api.FBefore}}, Keeps: []int{1}}
			want(t, e, s, wrong(api.ErrArg))
		}
	}
	wrongKinds()
	want(t, e, step(api.XBegin), echo(1))
	wrongKinds()
	sees(t, e, 1, graph.New())
	write(t, e, 1, addV(1))
	want(t, e, end(1), echo(1))
	want(t, e, fails(1, api.FFail), api.Echo{})
	want(t, e, step(api.XCheck), wrong(api.ErrDisk))
	wrongKinds() // where it is dead
	want(t, e, fails(1, api.FFail), api.Echo{})
	want(t, e, crash(), wrong(api.ErrDisk))
	wrongKinds() // where it is down
	want(t, e, crash(), api.Echo{})
	is(t, e, 1, made(t, addV(1)))
}

// Fields that a kind doesn't name don't count.
func TestOtherFields(t *testing.T) {
	e := open(t, usual)
	all := func(kind, n int) api.Step {
		return api.Step{Kind: kind, N: n, Put: addV(1), Q: about(api.QHasV, 1), Fates: []api.Fate{{Step: 1, Kind: api.FBefore}}, Keeps: []int{1, 2, 3}}
	}
	want(t, e, all(api.XBegin, 77), echo(1))
	want(t, e, all(api.XBegin, 1), echo(2))
	want(t, e, all(api.XAsk, 1), answer(api.Answer{}))
	want(t, e, all(api.XWrite, 1), api.Echo{})
	want(t, e, all(api.XAsk, 1), answer(api.Answer{Yes: true}))
	want(t, e, all(api.XCheck, 5), api.Echo{})
	want(t, e, all(api.XAbort, 2), api.Echo{})
	want(t, e, all(api.XCommit, 1), echo(1))
	want(t, e, all(api.XSweep, -1), api.Echo{})
	want(t, e, all(api.XCrash, 2), api.Echo{})
	want(t, e, all(api.XPlan, 1), api.Echo{})
	want(t, e, all(api.XCheck, 1), wrong(api.ErrPower))
	is(t, e, 1, made(t, addV(1)))
}

// Numbers of transactions go on, behind crashes too; one that is refused takes none.
func TestNumbers(t *testing.T) {
	e := open(t, usual)
	next := 1
	begin := func(count int) {
		t.Helper()
		for range count {
			want(t, e, step(api.XBegin), echo(int64(next)))
			next++
		}
	}
	begin(api.MaxTxns)
	want(t, e, step(api.XBegin), wrong(api.ErrTxns))
	want(t, e, step(api.XBegin), wrong(api.ErrTxns))
	want(t, e, giveUp(3), api.Echo{})
	begin(1)
	for n := 1; n < next; n++ {
		if n != 3 {
			want(t, e, end(n), echo(0))
		}
	}
	begin(2)
	want(t, e, crash(), api.Echo{})
	want(t, e, crash(), api.Echo{}) // a life without a transaction
	begin(1)
	done(t, e, next, 1, addV(1))
	next++
	want(t, e, fails(1, api.FFail), api.Echo{})
	want(t, e, step(api.XCheck), wrong(api.ErrDisk))
	want(t, e, step(api.XBegin), wrong(api.ErrDead))
	want(t, e, fails(1, api.FFail), api.Echo{})
	want(t, e, crash(), wrong(api.ErrDisk))
	want(t, e, step(api.XBegin), wrong(api.ErrDisk))
	want(t, e, crash(), api.Echo{})
	begin(2)
	if next != 16 {
		t.Fatalf("the next one is %d", next)
	}
	want(t, e, giveUp(15), api.Echo{})
	write(t, e, 14, addV(2))
	want(t, e, end(14), echo(2))
}

// Behind a crash no transaction is under way: neither an earlier one, though the database counts from 1 on again, nor one that is still to come.
func TestEarlierNumbers(t *testing.T) {
	e := open(t, usual)
	odd := []int{0, -1, -2, math.MinInt, math.MinInt + 1, math.MinInt + 2, math.MinInt + 3, math.MaxInt, math.MaxInt - 1}
	want(t, e, step(api.XBegin), echo(1))
	want(t, e, step(api.XBegin), echo(2))
	write(t, e, 1, addV(1))
	for _, n := range append(odd, 3, 4) {
		isNone(t, e, n, api.ErrNoTxn)
	}
	want(t, e, crash(), api.Echo{})
	for _, n := range append(odd, 1, 2, 3, 4, 5) {
		isNone(t, e, n, api.ErrNoTxn)
	}
	want(t, e, step(api.XBegin), echo(3))
	want(t, e, step(api.XBegin), echo(4))
	write(t, e, 4, addV(2))
	for _, n := range append(odd, 1, 2, 5, 6, 7, 8) {
		isNone(t, e, n, api.ErrNoTxn)
	}
	sees(t, e, 3, graph.New())
	sees(t, e, 4, made(t, addV(2)))
	want(t, e, end(4), echo(1))
	want(t, e, giveUp(3), api.Echo{})
	for _, n := range []int{1, 2, 3, 4, 5} {
		isNone(t, e, n, api.ErrNoTxn)
	}
	is(t, e, 1, made(t, addV(2)))
}

// P24.1: all calls of a transaction, with its errors.
func TestTransactions(t *testing.T) {
	e := open(t, usual)
	base := []api.Write{addV(1), addV(2), addE(5, 1, 2, 3), prop(vertex(1), "a", number(4))}
	want(t, e, step(api.XBegin), echo(1)) // sees nothing to its end
	done(t, e, 2, 1, base...)
	for n := 3; n <= 6; n++ {
		want(t, e, step(api.XBegin), echo(int64(n)))
	}
	write(t, e, 3, addE(6, 1, 2, 1))
	write(t, e, 4, addE(7, 2, 2, 9), unset(vertex(1), "a"))
	write(t, e, 5, addV(9))
	for _, x := range []struct {
		w      api.Write
		wanted api.Errno
	}{
		{api.Write{}, api.ErrArg}, {addV(9), api.ErrExists}, {delV(8), api.ErrNotFound}, {delV(1), api.ErrInUse},
		{addE(8, 1, 2, -1), api.ErrWeight}, {prop(vertex(1), "A", number(1)), api.ErrValue},
		{prop(vertex(1), "a", api.Value{Kind: api.VGauss, C: complex(math.NaN(), math.Inf(1))}), api.ErrValue},
	} {
		want(t, e, put(5, x.w), wrong(x.wanted))
	}
	sees(t, e, 1, graph.New())
	sees(t, e, 3, made(t, append(base, addE(6, 1, 2, 1))...))
	sees(t, e, 4, made(t, append(base, addE(7, 2, 2, 9), unset(vertex(1), "a"))...))
	sees(t, e, 6, made(t, base...))
	is(t, e, 1, made(t, base...))
	want(t, e, end(3), echo(2))
	want(t, e, end(4), wrong(api.ErrConflict))
	want(t, e, end(5), echo(3))
	isNone(t, e, 4, api.ErrNoTxn)
	sees(t, e, 1, graph.New())
	sees(t, e, 6, made(t, base...))
	want(t, e, end(6), echo(1)) // it has written nothing: its start
	want(t, e, end(1), echo(0))
	is(t, e, 3, made(t, append(base, addE(6, 1, 2, 1), addV(9))...))
	want(t, e, crash(), api.Echo{})
	is(t, e, 3, made(t, append(base, addE(6, 1, 2, 1), addV(9))...))
}

// P24.1: XSweep tells how many versions nobody asks for any more, and changes nothing that is seen.
func TestSweep(t *testing.T) {
	e := open(t, usual)
	a := func(n int64) api.Write { return prop(vertex(1), "a", number(n)) }
	done(t, e, 1, 1, addV(1), a(1))
	want(t, e, step(api.XBegin), echo(2)) // from 1
	done(t, e, 3, 2, a(2))
	want(t, e, step(api.XBegin), echo(4)) // from 2
	done(t, e, 5, 3, a(3))
	done(t, e, 6, 4, unset(vertex(1), "a"))
	want(t, e, step(api.XSweep), echo(0))
	want(t, e, end(2), echo(1))
	want(t, e, step(api.XSweep), echo(1))
	sees(t, e, 4, made(t, addV(1), a(2)))
	want(t, e, crash(), api.Echo{}) // 4 is over
	want(t, e, step(api.XSweep), echo(3))
	want(t, e, step(api.XSweep), echo(0))
	is(t, e, 4, made(t, addV(1)))
	done(t, e, 7, 5, delV(1))
	want(t, e, step(api.XSweep), echo(2))
	want(t, e, crash(), api.Echo{})
	is(t, e, 5, graph.New())
}

// XPlan: which fates count, and from where on.
func TestPlan(t *testing.T) {
	const far = 1099511627776
	for _, x := range []struct {
		name  string
		fates []api.Fate
		first api.Errno // of the next step
		next  api.Errno // of the second one
	}{
		{"none", nil, 0, 0},
		{"the next one", []api.Fate{{Step: 1, Kind: api.FFail}}, api.ErrDisk, 0},
		{"ahead of it the power goes", []api.Fate{{Step: 1, Kind: api.FBefore}}, api.ErrPower, 0},
		{"behind it the power goes", []api.Fate{{Step: 1, Kind: api.FBehind}}, api.ErrPower, 0},
		{"the second one", []api.Fate{{Step: 2, Kind: api.FFail}}, 0, api.ErrDisk},
		{"the first that counts", []api.Fate{{Step: 1, Kind: api.FFail}, {Step: 1, Kind: api.FBehind}}, api.ErrDisk, 0},
		{"both", []api.Fate{{Step: 2, Kind: api.FFail}, {Step: 1, Kind: api.FBehind}}, api.ErrPower, 0},
		{"wrong kinds don't count", []api.Fate{{Step: 1}, {Step: 1, Kind: 4}, {Step: 1, Kind: -1}, {Step: 1, Kind: api.FFail}}, api.ErrDisk, 0},
		{"wrong kinds alone", []api.Fate{{Step: 1}, {Step: 1, Kind: 4}, {Step: 2, Kind: math.MinInt}}, 0, 0},
		{"too far", []api.Fate{{Step: far, Kind: api.FFail}, {Step: far + 1, Kind: api.FFail}, {Step: math.MaxInt, Kind: api.FFail}}, 0, 0},
		{"too near", []api.Fate{{Step: 0, Kind: api.FFail}, {Step: -1, Kind: api.FFail}, {Step: math.MinInt, Kind: api.FFail}}, 0, 0},
		{"wrong ones ahead", []api.Fate{{Step: 0, Kind: api.FFail}, {Step: far + 1, Kind: api.FFail}, {Step: 1, Kind: api.FBefore}}, api.ErrPower, 0},
	} {
		e := open(t, usual)
		done(t, e, 1, 1, addV(1))
		want(t, e, step(api.XCheck), api.Echo{}) // behind it a checkpoint has two steps: those of the log's Reset
		want(t, e, plan(x.fates...), api.Echo{})
		wanted := x.first
		if wanted == api.OK {
			wanted = x.next
		}
		if got := e.Do(step(api.XCheck)); !sameEcho(got, wrong(wanted)) {
			t.Errorf("%s: %+v, want %d", x.name, got, wanted)
		}
		if wanted != api.OK {
			want(t, e, step(api.XSweep), wrong(api.ErrDead))
		}
	}
}

// stepsOf is how many steps the disk does at an engine's step: how far on the first one is that can't be refused there.
func stepsOf(t *testing.T, data []byte, conf api.Conf, before []api.Step, s api.Step) int {
	t.Helper()
	for n := 1; ; n++ {
		e := load(t, data, conf)
		for _, x := range before {
			if got := e.Do(x); got.Err != api.OK {
				t.Fatalf("Do(%+v) = %+v", x, got)
			}
		}
		want(t, e, fails(n, api.FFail), api.Echo{})
		if e.Do(s).Err == api.OK {
			return n - 1
		}
	}
}

// XPlan counts from now: from the steps that there were until then, whichever they were; a plan takes the place of the one ahead, and stays behind a crash.
func TestPlanCountsFromNow(t *testing.T) {
	e := open(t, usual)
	done(t, e, 1, 1, addV(1))
	data := e.Data()
	writes := []api.Step{step(api.XBegin), put(1, addV(2)), put(1, addE(1, 1, 2, 3))}
	commits := stepsOf(t, data, usual, writes, end(1))
	crashes := stepsOf(t, data, usual, nil, crash())
	if commits < 2 || crashes < 2 {
		t.Fatalf("%d steps of a commit, %d of a crash", commits, crashes)
	}
	fresh := func(fates ...api.Fate) *engine.Engine {
		e := load(t, data, usual)
		want(t, e, plan(fates...), api.Echo{})
		for _, s := range writes {
			if got := e.Do(s); got.Err != api.OK {
				t.Fatalf("Do(%+v) = %+v", s, got)
			}
		}
		return e
	}
	e = fresh(api.Fate{Step: commits + 1, Kind: api.FBefore})
	want(t, e, end(1), echo(2))
	want(t, e, step(api.XCheck), wrong(api.ErrPower))

	e = fresh(api.Fate{Step: commits, Kind: api.FFail})
	want(t, e, plan(), api.Echo{}) // none any more
	want(t, e, end(1), echo(2))
	want(t, e, step(api.XCheck), api.Echo{})

	e = fresh(api.Fate{Step: commits, Kind: api.FFail})
	want(t, e, fails(commits+1, api.FBehind), api.Echo{}) // in its place
	want(t, e, end(1), echo(2))
	want(t, e, step(api.XCheck), wrong(api.ErrPower))

	e = fresh(api.Fate{Step: crashes + 1, Kind: api.FBefore}) // stays behind a crash
	want(t, e, crash(), api.Echo{})
	want(t, e, step(api.XCheck), wrong(api.ErrPower))
	want(t, e, fails(1, api.FFail), api.Echo{}) // without power no step is counted
	want(t, e, step(api.XCheck), wrong(api.ErrDead))
	want(t, e, crash(), wrong(api.ErrDisk))
	want(t, e, fails(2, api.FFail), api.Echo{}) // from the one that failed on
	want(t, e, crash(), wrong(api.ErrDisk))
	want(t, e, crash(), api.Echo{})
	is(t, e, 1, made(t, addV(1)))
}

// isDown: each of the kinds 1 to 7 answers the error of the last opening, and nothing is told of a head.
func isDown(t *testing.T, e *engine.Engine, wanted api.Errno) {
	t.Helper()
	for kind := api.XBegin; kind <= api.XSweep; kind++ {
		for _, n := range []int{0, 1, 2, 3, math.MinInt} {
			want(t, e, api.Step{Kind: kind, N: n, Put: addV(1), Q: about(api.QHasV, 1)}, wrong(wanted))
		}
	}
	if e.Down() != wanted || e.Last() != 0 || len(e.Net().Verts)+len(e.Net().Edges)+len(e.Props()) != 0 {
		t.Fatalf("Down = %d, want %d; %d, %v, %v", e.Down(), wanted, e.Last(), e.Net(), e.Props())
	}
	if len(e.Data()) != usual.Sectors*api.Sector {
		t.Fatalf("Data has %d bytes", len(e.Data()))
	}
}

// An engine whose database couldn't be opened anew is down until another crash lets it.
func TestDown(t *testing.T) {
	e := open(t, usual)
	g := made(t, addV(1), prop(vertex(1), "a", text("x")))
	done(t, e, 1, 1, addV(1), prop(vertex(1), "a", text("x")))
	want(t, e, step(api.XBegin), echo(2))
	for range 2 {
		want(t, e, plan(api.Fate{Step: 1, Kind: api.FFail}, api.Fate{Step: 2, Kind: api.FBefore}, api.Fate{Step: 3, Kind: api.FFail}), api.Echo{})
		want(t, e, crash(), wrong(api.ErrDisk))
		isDown(t, e, api.ErrDisk)
		want(t, e, crash(), wrong(api.ErrPower))
		isDown(t, e, api.ErrPower)
		want(t, e, crash(1, 2, 3), wrong(api.ErrDisk))
		isDown(t, e, api.ErrDisk)
		want(t, e, crash(), api.Echo{})
		is(t, e, 1, g)
		want(t, e, crash(), api.Echo{})
		is(t, e, 1, g)
	}
	want(t, e, step(api.XBegin), echo(3))
	sees(t, e, 3, g)
	want(t, e, fails(1, api.FBefore), api.Echo{})
	want(t, e, crash(), wrong(api.ErrPower))
	want(t, e, plan(api.Fate{Step: 1, Kind: api.FBehind}), api.Echo{}) // the plan is the disk's, also while it is down
	want(t, e, crash(), wrong(api.ErrPower))
	want(t, e, fails(1, api.FFail), api.Echo{})
	want(t, e, plan(), api.Echo{})
	want(t, e, crash(), api.Echo{})
	is(t, e, 1, g)
}

// nearTheEnd is an engine's disk whose log has just few runs left.
func nearTheEnd(t *testing.T, left uint64) []byte {
	t.Helper()
	e := open(t, usual)
	done(t, e, 1, 1, addV(1))
	want(t, e, step(api.XCheck), api.Echo{})
	data := e.Data()
	first := make([]byte, api.Sector-4)
	for i := range 8 {
		first[i] = byte((uint64(1)<<38 - left) >> (8 * i))
	}
	copy(data, crc.Seal(first))
	return data
}

// A log that has no run left can't be opened anew: the engine is down for good, with an error that isn't a step's.
func TestNoRunLeft(t *testing.T) {
	if e, err := engine.Load(nearTheEnd(t, 0), usual); e != nil || err != api.ErrCorrupt {
		t.Fatalf("Load = %v, %d", e, err)
	}
	e := load(t, nearTheEnd(t, 2), usual)
	want(t, e, crash(), api.Echo{})
	is(t, e, 1, made(t, addV(1)))
	done(t, e, 1, 2, addV(2))
	is(t, e, 2, made(t, addV(1), addV(2)))
	want(t, e, step(api.XCheck), wrong(api.ErrLogFull))
	done(t, e, 2, 3, addV(3))
	for range 3 {
		want(t, e, crash(), wrong(api.ErrCorrupt))
		isDown(t, e, api.ErrCorrupt)
	}
}

// A step of any call that is refused: the database is dead until a crash, and tells what it did last.
func TestDead(t *testing.T) {
	for kind, wanted := range map[int]api.Errno{api.FFail: api.ErrDisk, api.FBefore: api.ErrPower, api.FBehind: api.ErrPower} {
		for _, s := range []api.Step{end(3), step(api.XCheck), step(api.XSweep)} {
			e := open(t, usual)
			done(t, e, 1, 1, addV(1))
			done(t, e, 2, 2, prop(vertex(1), "a", number(1)), addV(9), delV(9))
			g := made(t, addV(1), prop(vertex(1), "a", number(1)))
			want(t, e, step(api.XBegin), echo(3))
			want(t, e, step(api.XBegin), echo(4))
			write(t, e, 3, addV(3))
			if s.Kind == api.XSweep {
				want(t, e, giveUp(3), api.Echo{})
				want(t, e, giveUp(4), api.Echo{})
				done(t, e, 5, 3, unset(vertex(1), "a"))
				g = made(t, addV(1))
			}
			last := e.Last()
			want(t, e, fails(1, kind), api.Echo{})
			want(t, e, s, wrong(wanted))
			for range 2 {
				want(t, e, step(api.XBegin), wrong(api.ErrDead))
				for n := range 7 {
					isNone(t, e, n, api.ErrDead)
				}
				want(t, e, step(api.XCheck), wrong(api.ErrDead))
				want(t, e, step(api.XSweep), wrong(api.ErrDead))
				is(t, e, last, g)
			}
			want(t, e, crash(), api.Echo{})
			is(t, e, last, g)
			isNone(t, e, 4, api.ErrNoTxn)
		}
	}
}

// Keeps may be any numbers: those of no sector, those of none that is pending, one more than once.
func TestKeeps(t *testing.T) {
	odd := []int{-1, math.MinInt, usual.Sectors, math.MaxInt, 7, 7, 0}
	for _, keeps := range [][]int{nil, {}, odd, {0, 1, 2}} {
		e := open(t, usual)
		done(t, e, 1, 1, addV(1))
		want(t, e, crash(keeps...), api.Echo{})
		is(t, e, 1, made(t, addV(1)))
		done(t, e, 2, 2, addV(2))
		is(t, e, 2, made(t, addV(1), addV(2)))
	}
}

// cutOff is an engine whose second commit meets a refusal at one of its steps, unless it has fewer; and that commit's error.
func cutOff(t *testing.T, after, kind int) (*engine.Engine, api.Errno) {
	t.Helper()
	e := open(t, usual)
	done(t, e, 1, 1, addV(1))
	want(t, e, step(api.XBegin), echo(2))
	write(t, e, 2, addV(2), prop(vertex(2), "a", text(strings.Repeat("x", 60))))
	want(t, e, fails(after, kind), api.Echo{})
	return e, e.Do(end(2)).Err
}

// Keeps are the pending sectors that persist: whether the commit that was under way is there hangs on them, if all but its Sync was done.
func TestKeepsDecide(t *testing.T) {
	base := made(t, addV(1))
	next := made(t, addV(1), addV(2), prop(vertex(2), "a", text(strings.Repeat("x", 60))))
	all := make([]int, usual.Sectors)
	for i := range all {
		all[i] = i
	}
	steps := 0
	for err := api.ErrDisk; err != api.OK; steps++ {
		_, err = cutOff(t, steps+1, api.FFail)
	}
	steps-- // the last one is the log's Sync
	for after := 1; after <= steps; after++ {
		for _, keeps := range [][]int{nil, all} {
			e, err := cutOff(t, after, api.FBefore)
			want(t, e, crash(keeps...), api.Echo{})
			if err != api.ErrPower {
				t.Fatalf("step %d: %d", after, err)
			}
			if after == steps && keeps != nil {
				is(t, e, 2, next)
			} else {
				is(t, e, 1, base)
			}
		}
	}
	e, _ := cutOff(t, steps, api.FBehind)
	want(t, e, crash(), api.Echo{})
	is(t, e, 2, next)
}
