package engine_test

import (
	"bytes"
	"math"
	"math/rand/v2"
	"slices"
	"strings"
	"testing"

	"skein/api"
	"skein/disk"
	"skein/engine"
	"skein/gauss"
	"skein/graph"
	"skein/keys"
	"skein/num"
	"skein/page"
	"skein/plain"
	"skein/recov"
	"skein/store"
)

// script is the steps of a run, and the engine behind them.
func script(t *testing.T, conf api.Conf, seed uint64, count int) ([]api.Step, *model) {
	t.Helper()
	r := rand.New(rand.NewPCG(seed, 51))
	m := newModel(t, conf)
	var steps []api.Step
	for range count {
		s := m.wild(r, 8)
		steps = append(steps, s)
		m.do(t, s)
	}
	return steps, m
}

// P24.4: Play is Open and Do.
func TestPlay(t *testing.T) {
	for seed := range uint64(8) {
		conf := api.Conf{Sectors: 240, Log: 40, Frames: int(seed), Seeds: []int{int(seed), 3}}
		steps, m := script(t, conf, seed, 600)
		for range 2 {
			echoes, err := engine.Play(conf, steps...)
			if err != api.OK || !slices.EqualFunc(echoes, m.echoes, sameEcho) {
				t.Fatalf("Play answers otherwise than Do: %d, %d", len(echoes), err)
			}
		}
	}
	for _, steps := range [][]api.Step{nil, {}} {
		if echoes, err := engine.Play(usual, steps...); len(echoes) != 0 || err != api.OK {
			t.Fatalf("Play without steps = %v, %d", echoes, err)
		}
	}
	echoes, err := engine.Play(usual, step(api.XBegin), step(0), put(1, addV(0)), question(1, about(api.QNet)), crash(), end(1), step(api.XBegin))
	wanted := []api.Echo{echo(1), wrong(api.ErrArg), wrong(api.ErrArg), {}, {}, wrong(api.ErrNoTxn), echo(2)}
	if err != api.OK || !slices.EqualFunc(echoes, wanted, sameEcho) {
		t.Fatalf("Play = %+v, %d", echoes, err)
	}
}

// P24.4: two engines share nothing: each answers as if it were alone.
func TestTwoEngines(t *testing.T) {
	conf := api.Conf{Sectors: 240, Log: 40, Frames: 3, Seeds: []int{1, 2}}
	a, alone := script(t, conf, 1, 800)
	b, other := script(t, conf, 2, 800)
	first, second := open(t, conf), open(t, conf)
	for i := range a {
		want(t, first, a[i], alone.echoes[i])
		want(t, second, b[i], other.echoes[i])
	}
	if !bytes.Equal(first.Data(), alone.e.Data()) || !bytes.Equal(second.Data(), other.e.Data()) {
		t.Fatal("the disks have something else")
	}
}

// spoil writes over all that a list has, spare room too.
func spoil[T any](list []T, by T) {
	list = list[:cap(list)]
	for i := range list {
		list[i] = by
	}
}

// P24.4: what is handed in is neither changed nor kept.
func TestArguments(t *testing.T) {
	seeds := []int{5, 1, 4}
	conf := usual
	conf.Seeds = seeds[:2]
	first := open(t, conf)
	done(t, first, 1, 1, addV(1))
	data := append(first.Data(), 1, 2, 3)[:conf.Sectors*api.Sector]
	before := bytes.Clone(data)
	second := load(t, data, conf)
	if !slices.Equal(seeds, []int{5, 1, 4}) || !bytes.Equal(data, before) {
		t.Fatalf("changed to %v", seeds)
	}
	spoil(seeds, 99)
	spoil(data, 99)
	for i, e := range []*engine.Engine{first, second} {
		n := 2 - i
		back := []byte("abcdef")
		want(t, e, step(api.XBegin), echo(int64(n)))
		write(t, e, n, prop(vertex(1), "a", api.Value{Kind: api.VText, Text: back[1:3]}))
		if string(back) != "abcdef" {
			t.Fatalf("changed to %q", back)
		}
		spoil(back, '#')
		g := made(t, addV(1), prop(vertex(1), "a", text("bc")))
		sees(t, e, n, g)
		want(t, e, end(n), echo(2))
		fates := []api.Fate{{Step: 1, Kind: api.FFail}, {Step: 3, Kind: api.FBefore}, {Step: 2, Kind: api.FBehind}}
		want(t, e, plan(fates[:2]...), api.Echo{})
		if !slices.Equal(fates, []api.Fate{{Step: 1, Kind: api.FFail}, {Step: 3, Kind: api.FBefore}, {Step: 2, Kind: api.FBehind}}) {
			t.Fatalf("changed to %v", fates)
		}
		spoil(fates, api.Fate{})
		want(t, e, step(api.XCheck), wrong(api.ErrDisk))
		keeps := []int{9, 3, 3, -1, 5}
		want(t, e, plan(), api.Echo{})
		want(t, e, crash(keeps[:3]...), api.Echo{})
		if !slices.Equal(keeps, []int{9, 3, 3, -1, 5}) {
			t.Fatalf("changed to %v", keeps)
		}
		spoil(keeps, 0)
		is(t, e, 2, g)
	}
}

// P24.4: what is answered is new memory.
func TestAnswers(t *testing.T) {
	ws := []api.Write{addV(1), addV(2), addV(3), addE(5, 1, 2, 3), addE(6, 3, 2, 1), prop(vertex(1), "a", text("xy")), prop(edge(5), "a", text("xy"))}
	e := open(t, usual)
	done(t, e, 1, 1, ws...)
	want(t, e, step(api.XBegin), echo(2)) // sees the head
	want(t, e, step(api.XBegin), echo(3))
	write(t, e, 3, addV(4))
	head, own := made(t, ws...), made(t, append(ws, addV(4))...)
	for range 2 {
		spoil(e.Data(), 99)
		net := e.Net()
		spoil(net.Verts, 99)
		spoil(net.Edges, api.Edge{Id: 99})
		props := e.Props()
		spoil(props[0].Val.Text, '#')
		if string(props[1].Val.Text) != "xy" {
			t.Fatalf("two properties share memory: %v", props)
		}
		spoil(props, api.Prop{})
		for n := 2; n <= 3; n++ {
			for _, q := range []api.Query{about(api.QNet), about(api.QAround, 2), about(api.QForest), {Kind: api.QProp, Of: vertex(1), Name: "a"}} {
				a := e.Do(question(n, q)).Ans
				spoil(a.Ids, 99)
				spoil(a.Verts, 99)
				spoil(a.Edges, api.Edge{Id: 99})
				spoil(a.Val.Text, '#')
			}
		}
		is(t, e, 1, head)
		sees(t, e, 2, head)
		sees(t, e, 3, own)
	}
	var steps []api.Step
	steps = append(steps, step(api.XBegin))
	for _, w := range ws {
		steps = append(steps, put(1, w))
	}
	twice := question(1, about(api.QNet))
	echoes, _ := engine.Play(usual, append(steps, twice, twice)...)
	a, b := echoes[len(steps)].Ans, echoes[len(steps)+1].Ans
	spoil(a.Verts, 99)
	spoil(a.Edges, api.Edge{Id: 99})
	if !sameAnswer(b, plain.Ask(head, about(api.QNet))) {
		t.Fatalf("two echoes share memory: %+v", b)
	}
	want(t, e, crash(), api.Echo{})
	is(t, e, 1, head)
}

// P1: no step and no configuration makes a call panic, or not end.
func TestAnyArguments(t *testing.T) {
	odd := []int{math.MinInt, -1, 0, 1, 2, 3, 60, api.MaxId, api.MaxId + 1, math.MaxInt}
	r := rand.New(rand.NewPCG(1, 52))
	some := func() int { return odd[r.IntN(len(odd))] }
	for range 400 {
		conf := api.Conf{Sectors: some(), Log: some(), Frames: some(), Seeds: []int{some(), some()}}
		if r.IntN(2) == 0 {
			conf.Sectors, conf.Log = 30+r.IntN(100), 10+r.IntN(10)
		}
		e, err := engine.Open(conf)
		if (e == nil) != (err != api.OK) {
			t.Fatalf("Open(%+v) = %v, %d", conf, e, err)
		}
		if e == nil {
			continue
		}
		for range 60 {
			w := api.Write{Kind: r.IntN(9) - 1, Id: some(), U: some(), V: some(), W: int64(some()), Of: api.Ref{Edge: r.IntN(2) == 0, Id: some()}, Name: strings.Repeat("a", r.IntN(30))}
			w.Val = api.Value{Kind: r.IntN(5), Int: int64(some()), C: complex(float64(some()), math.Inf(1-r.IntN(3))), Text: make([]byte, r.IntN(90))}
			q := api.Query{Kind: r.IntN(14) - 1, U: some(), V: some(), Of: w.Of, Name: w.Name}
			fates := []api.Fate{{Step: some(), Kind: r.IntN(6) - 1}, {Step: some(), Kind: some()}}
			s := api.Step{Kind: r.IntN(12) - 1, N: some(), Put: w, Q: q, Fates: fates, Keeps: []int{some(), some()}}
			e.Do(s)
		}
		e.Do(plan())
		want(t, e, crash(), api.Echo{})
		toldBy(t, e)
	}
}

// P6: sums to the last one that is told, at the head and in a transaction's own state.
func TestGreatSums(t *testing.T) {
	e := open(t, someConf(1000, 400, 8))
	ws := []api.Write{addV(1)}
	for id := 2; id <= 65; id++ {
		ws = append(ws, addV(id), addE(id, id-1, id, api.MaxWeight))
	}
	done(t, e, 1, 1, ws...)
	want(t, e, step(api.XBegin), echo(2))
	want(t, e, step(api.XBegin), echo(3))
	over := append(ws, addV(66), addE(66, 65, 66, 1))
	write(t, e, 3, over[len(ws):]...)
	check := func(n int, g *graph.Graph, wanted api.Errno) {
		t.Helper()
		for _, q := range []api.Query{about(api.QWeight), about(api.QPathSum, 1, 66), about(api.QPathSum, 1, 65), about(api.QPathMax, 1, 65), about(api.QSpan, 9), about(api.QForest)} {
			want(t, e, question(n, q), answer(plain.Ask(g, q)))
		}
		want(t, e, question(n, about(api.QWeight)), answer(plain.Ask(g, about(api.QWeight))))
		if a := e.Do(question(n, about(api.QWeight))); a.Err != wanted {
			t.Fatalf("QWeight = %+v", a)
		}
	}
	check(2, made(t, ws...), api.OK)
	check(3, made(t, over...), api.ErrOverflow)
	want(t, e, end(3), echo(2))
	want(t, e, step(api.XBegin), echo(4))
	check(4, made(t, over...), api.ErrOverflow)
	check(2, made(t, ws...), api.OK)
}

// P24.1, P24.2: as much as a graph may have, through many transactions and a crash.
func TestFull(t *testing.T) {
	e := open(t, someConf(2400, 400, 16))
	var ws []api.Write
	for id := 1; id < api.MaxVerts; id++ {
		ws = append(ws, addV(id))
	}
	for id := 1; id < api.MaxEdges; id++ {
		ws = append(ws, addE(id, id, 1+id%9, int64(id)))
	}
	n, last := 0, int64(0)
	for part := range slices.Chunk(ws, 150) {
		n, last = n+1, last+1
		done(t, e, n, last, part...)
	}
	g := made(t, ws...)
	is(t, e, last, g)
	for range 2 {
		want(t, e, step(api.XBegin), echo(int64(n+1)))
		want(t, e, step(api.XBegin), echo(int64(n+2)))
		write(t, e, n+1, addV(3000))
		write(t, e, n+2, addV(3001))
		want(t, e, put(n+2, addV(3002)), wrong(api.ErrMany))
		want(t, e, end(n+1), echo(last+1))
		want(t, e, end(n+2), wrong(api.ErrMany))
		n, last = n+3, last+2
		done(t, e, n, last, delV(3000))
		is(t, e, last, g)
		want(t, e, crash(), api.Echo{})
		is(t, e, last, g)
	}
	want(t, e, step(api.XBegin), echo(int64(n+1)))
	for _, q := range []api.Query{about(api.QWeight), about(api.QForest), about(api.QSpan, 3), about(api.QPathSum, 2000, 8), about(api.QPathMax, 1, 1999), about(api.QNet)} {
		want(t, e, question(n+1, q), answer(plain.Ask(g, q)))
	}
}

// The ten examples of the whole.
func TestExample1(t *testing.T) {
	if _, _, e := num.Get([]byte{0x80, 0}, 0); e != api.ErrForm {
		t.Errorf("Get = %d", e)
	}
	if c, e := gauss.Turn(3+1i, 1); c != -1+3i || e != api.OK {
		t.Errorf("Turn = %v, %d", c, e)
	}
}

func TestExample2(t *testing.T) {
	if k, e := keys.Prop(edge(1), "ab"); string(k) != "\x03\x01\x00\x00\x00\x01ab" || e != api.OK {
		t.Errorf("Prop = %x, %d", k, e)
	}
}

// three is the graph of examples 3 and 8.
var three = []api.Write{addV(1), addV(2), addV(3), addE(1, 1, 2, 5), addE(2, 2, 3, 4), addE(3, 1, 3, 4)}

func TestExample3(t *testing.T) {
	e := open(t, usual)
	done(t, e, 1, 1, three...)
	want(t, e, step(api.XBegin), echo(2))
	want(t, e, question(2, about(api.QForest)), answer(api.Answer{Ids: []int{2, 3}}))
	want(t, e, question(2, about(api.QPathSum, 1, 2)), answer(api.Answer{C: 8 + 2i}))
	want(t, e, question(2, about(api.QPathMax, 1, 2)), answer(api.Answer{Edge: api.Edge{Id: 3, U: 1, V: 3, W: 4}}))
}

func TestExample4(t *testing.T) {
	d := disk.New(2)
	d.Write(0, []byte("ab"))
	d.Sync()
	d.Write(0, []byte("cd"))
	d.On()
	if b, e := d.Read(0); e != api.OK || string(b[:2]) != "ab" {
		t.Errorf("Read = %q, %d", b[:2], e)
	}
}

func TestExample5(t *testing.T) {
	d := disk.New(20)
	conf := api.Conf{Log: 6, Frames: 1}
	s, _ := recov.Open(d, conf)
	empty := func() {
		t.Helper()
		for n := range s.Pages() {
			if g, e := s.Read(n); e != api.OK || !bytes.Equal(g.Bytes()[12:], page.New(0, 0).Bytes()[12:]) {
				t.Fatalf("page %d: %d", n, e)
			}
		}
	}
	for range 3 {
		s.Begin()
		for n := range 4 {
			s.Write(n, page.New(1, uint32(n)))
		}
		s.Abort()
		empty()
		s.Begin()
		for n := range 4 {
			s.Write(n, page.New(2, uint32(n)))
		}
		d.On(d.Loose()...)
		s, _ = recov.Open(d, conf)
		empty()
	}
}

func TestExample6(t *testing.T) {
	d := disk.New(100)
	conf := api.Conf{Log: 30, Frames: 4}
	s, _ := store.Open(d, conf)
	a := []byte("a")
	if e, f := s.Apply(3, api.Row{Key: a, Val: []byte("1")}), s.Apply(5, api.Row{Key: a, Val: []byte("2")}); e != api.OK || f != api.OK {
		t.Fatalf("Apply = %d, %d", e, f)
	}
	for range 2 {
		if b, ok, e := s.Get(a, 4); string(b) != "1" || !ok || e != api.OK {
			t.Errorf("Get = %q, %t, %d", b, ok, e)
		}
		d.On()
		s, _ = store.Open(d, conf)
	}
}

func TestExample7(t *testing.T) {
	e := open(t, usual)
	done(t, e, 1, 1, addV(1), addV(2), addV(3))
	want(t, e, step(api.XBegin), echo(2))
	want(t, e, step(api.XBegin), echo(3))
	write(t, e, 2, addE(1, 1, 2, 5))
	write(t, e, 3, addE(2, 1, 3, 5))
	want(t, e, end(3), echo(2))
	want(t, e, end(2), wrong(api.ErrConflict))
}

func TestExample8(t *testing.T) {
	e := open(t, usual)
	done(t, e, 1, 1, three[:5]...)
	forest := func(n int, ids ...int) {
		t.Helper()
		want(t, e, step(api.XBegin), echo(int64(n)))
		want(t, e, question(n, about(api.QForest)), answer(api.Answer{Ids: ids}))
	}
	forest(2, 1, 2)
	done(t, e, 3, 2, three[5])
	forest(4, 2, 3)
	done(t, e, 5, 3, delE(2))
	forest(6, 1, 3)
}

func TestExample9(t *testing.T) {
	e := open(t, usual)
	done(t, e, 1, 1, three...)
	g := made(t, three...)
	want(t, e, step(api.XBegin), echo(2))
	for i := range 5 {
		ws := []api.Write{delE(1 + i%3), prop(vertex(2), "a", number(int64(i)))}
		if i >= 3 {
			ws = ws[1:]
		}
		done(t, e, 3+i, int64(2+i), ws...)
		sees(t, e, 2, g)
		if got := e.Do(step(api.XSweep)); got.Err != api.OK {
			t.Fatalf("Sweep = %+v", got)
		}
		sees(t, e, 2, g)
	}
}

func TestExample10(t *testing.T) {
	r := rand.New(rand.NewPCG(1, 53))
	data := make([]byte, usual.Sectors*api.Sector)
	for i := range data {
		data[i] = byte(r.Uint32())
	}
	if e, err := engine.Load(data, usual); e != nil || err != api.ErrCorrupt {
		t.Errorf("Load = %v, %d", e, err)
	}
}
