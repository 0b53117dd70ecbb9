package engine_test

import (
	"bytes"
	"fmt"
	"maps"
	"math"
	"math/rand/v2"
	"slices"
	"testing"

	"skein/api"
	"skein/disk"
	"skein/engine"
	"skein/graph"
	"skein/plain"
	"skein/store"
)

// txn is a transaction under way, as plain graphs have it.
type txn struct {
	start  int64
	sees   *graph.Graph
	refs   map[api.Ref]struct{}
	writes []api.Write
}

// past is a commit.
type past struct {
	time int64
	refs map[api.Ref]struct{}
}

// state is what is committed.
type state struct {
	last int64
	head *graph.Graph
	by   []api.Write // of the last commit
}

// version is what a row has from a time on.
type version struct {
	time int64
	gone bool
}

// content is what a graph has, by what it is of.
func content(g *graph.Graph) map[string]string {
	out := map[string]string{}
	n := g.Net()
	for _, id := range n.Verts {
		out[fmt.Sprint(vertex(id))] = ""
	}
	for _, x := range n.Edges {
		out[fmt.Sprint(edge(x.Id))] = fmt.Sprint(x)
	}
	for _, p := range g.Props() {
		out[fmt.Sprint(p.Of, p.Name)] = fmt.Sprint(p.Val)
	}
	return out
}

// grow is the versions with those of a commit.
func grow(rows map[string][]version, time int64, before, behind *graph.Graph) {
	old, now := content(before), content(behind)
	for k, was := range old {
		if is, ok := now[k]; !ok || is != was {
			rows[k] = append(rows[k], version{time, !ok})
		}
	}
	for k := range now {
		if _, ok := old[k]; !ok {
			rows[k] = append(rows[k], version{time, false})
		}
	}
}

// swept is the versions that some time from a time on asks for, and how many others there are.
func swept(rows map[string][]version, from int64) (map[string][]version, int) {
	out, count := map[string][]version{}, 0
	for k, all := range rows {
		keep := 0 // the first one that stays
		for i, v := range all {
			if v.time <= from {
				keep = i
				if v.gone {
					keep++
				}
			}
		}
		out[k] = slices.Clone(all[keep:])
		count += keep
	}
	return out, count
}

// model is what an engine has to answer: plain graphs, one for each commit.
type model struct {
	e       *engine.Engine
	conf    api.Conf
	sectors int
	now     state
	doubt   *state               // what else may be committed, if a commit was under way when a step was refused
	rows    map[string][]version // of the table; nil: not known
	begun   int
	live    map[int]*txn
	commits []past
	dead    bool
	down    api.Errno
	planned []api.Fate
	ends    map[api.Errno]int
	echoes  []api.Echo // of all steps
}

// newModel is the model of a new engine.
func newModel(t *testing.T, conf api.Conf) *model {
	t.Helper()
	m := &model{e: open(t, conf), conf: conf, sectors: conf.Sectors, rows: map[string][]version{}, ends: map[api.Errno]int{}}
	m.restart(state{head: graph.New()})
	return m
}

// restart goes on behind an opening.
func (m *model) restart(now state) {
	m.now, m.doubt, m.dead, m.down = now, nil, false, api.OK
	m.live, m.commits = map[int]*txn{}, nil
}

// refusal is the error of a step that meets a fate.
func refusal(kind int) api.Errno {
	if kind == api.FFail {
		return api.ErrDisk
	}
	return api.ErrPower
}

// mayRefuse: a fate of the plan has this error.
func (m *model) mayRefuse(e api.Errno) bool {
	return slices.ContainsFunc(m.planned, func(f api.Fate) bool {
		return f.Step > 0 && f.Kind >= api.FFail && f.Kind <= api.FBehind && refusal(f.Kind) == e
	})
}

// horizon is the least start of those under way.
func (m *model) horizon() int64 {
	least := m.now.last
	for _, x := range m.live {
		least = min(least, x.start)
	}
	return least
}

// conflicts: another one that was committed since has touched what it has.
func (m *model) conflicts(x *txn) bool {
	for _, c := range m.commits {
		for r := range c.refs {
			if _, both := x.refs[r]; both && c.time > x.start {
				return true
			}
		}
	}
	return false
}

// fate is how a commit has to end, and what is committed behind it.
func (m *model) fate(x *txn) (state, api.Echo) {
	switch {
	case m.conflicts(x):
		return m.now, wrong(api.ErrConflict)
	case len(x.writes) == 0:
		return m.now, echo(x.start)
	case m.now.last == api.MaxTime:
		return m.now, wrong(api.ErrLong)
	}
	next := state{m.now.last + 1, m.now.head.Clone(), x.writes}
	for _, w := range x.writes {
		if e := next.head.Do(w); e != api.OK {
			return m.now, wrong(e)
		}
	}
	return next, echo(next.last)
}

// sweeps is how many versions a Sweep has to take away (-1: not known), and those that are left.
func (m *model) sweeps() (map[string][]version, int) {
	if m.rows != nil {
		return swept(m.rows, m.horizon())
	}
	s, _ := store.Open(disk.Load(m.e.Data()), m.conf)
	n, e := s.Sweep(m.horizon())
	if e != api.OK {
		return nil, -1
	}
	return nil, n
}

// wanted is the echo that a step has to have if no step of the disk is refused and there is room, and what it does then.
func (m *model) wanted(s api.Step) (api.Echo, func()) {
	nothing := func() {}
	x := m.live[s.N]
	switch {
	case s.Kind == api.XPlan:
		return api.Echo{}, func() { m.planned = slices.Clone(s.Fates) }
	case s.Kind < api.XBegin || s.Kind > api.XSweep:
		return wrong(api.ErrArg), nothing
	case m.down != api.OK:
		return wrong(m.down), nothing
	case m.dead && s.Kind == api.XAsk:
		return noAnswer(api.ErrDead), nothing
	case m.dead:
		return wrong(api.ErrDead), nothing
	case s.Kind == api.XBegin && len(m.live) == api.MaxTxns:
		return wrong(api.ErrTxns), nothing
	case s.Kind == api.XBegin:
		return echo(int64(m.begun + 1)), func() {
			m.begun++
			m.live[m.begun] = &txn{m.now.last, m.now.head.Clone(), map[api.Ref]struct{}{}, nil}
		}
	case s.Kind == api.XCheck:
		return api.Echo{}, nothing
	case s.Kind == api.XSweep:
		rows, n := m.sweeps()
		return echo(int64(n)), func() { m.rows = rows }
	case x == nil && s.Kind == api.XAsk:
		return noAnswer(api.ErrNoTxn), nothing
	case x == nil:
		return wrong(api.ErrNoTxn), nothing
	case s.Kind == api.XAsk:
		return answer(plain.Ask(x.sees, s.Q)), nothing
	case s.Kind == api.XAbort:
		return api.Echo{}, func() { delete(m.live, s.N) }
	case s.Kind == api.XCommit:
		next, wanted := m.fate(x)
		return wanted, func() { m.committed(s.N, next) }
	}
	refs := x.sees.Refs(s.Put)
	if e := x.sees.Do(s.Put); e != api.OK {
		return wrong(e), nothing
	}
	return api.Echo{}, func() {
		for _, r := range refs {
			x.refs[r] = struct{}{}
		}
		x.writes = append(x.writes, s.Put)
	}
}

// committed: a transaction is over, and this is committed now.
func (m *model) committed(n int, next state) {
	if next.last > m.now.last {
		m.commits = append(m.commits, past{next.last, m.live[n].refs})
		m.adopt(next)
	}
	delete(m.live, n)
}

// adopt: this is committed now.
func (m *model) adopt(next state) {
	if m.rows != nil {
		grow(m.rows, next.last, m.now.head, next.head)
	}
	m.now = next
}

// roomy: no commit of a run lacks room.
func (m *model) roomy() bool { return m.conf.Log >= 100 && m.sectors-m.conf.Log >= 200 }

// do does a step and holds its echo against the one that is wanted.
func (m *model) do(t *testing.T, s api.Step) api.Echo {
	t.Helper()
	if s.Kind == api.XCrash {
		return m.crash(t, s)
	}
	meets := s.Kind == api.XCommit || s.Kind == api.XCheck || s.Kind == api.XSweep // those that meet the disk
	wanted, then := m.wanted(s)
	got := m.e.Do(s)
	well := wanted.Err == api.OK && !m.dead && m.down == api.OK
	switch {
	case meets && well && (got.Err == api.ErrDisk || got.Err == api.ErrPower) && m.mayRefuse(got.Err):
		wanted, then = wrong(got.Err), func() { m.cutOff(s) }
	case s.Kind == api.XCommit && well && (got.Err == api.ErrDiskFull || got.Err == api.ErrLogFull) && !m.roomy() && len(m.live[s.N].writes) > 0:
		wanted, then = wrong(got.Err), func() { delete(m.live, s.N) }
	case s.Kind == api.XSweep && well && got.Err == api.ErrLogFull && !m.roomy():
		wanted, then = wrong(got.Err), func() { m.rows = nil } // some may have been taken away
	case s.Kind == api.XSweep && wanted.N < 0 && got.Err == api.OK:
		wanted.N = got.N
	}
	m.ends[got.Err]++
	m.echoes = append(m.echoes, got)
	if !sameEcho(got, wanted) {
		t.Fatalf("Do(%+v) = %+v, want %+v", s, got, wanted)
	}
	then()
	m.same(t)
	return got
}

// cutOff: a step was refused within this call.
func (m *model) cutOff(s api.Step) {
	m.dead = true
	switch s.Kind {
	case api.XCommit:
		next, _ := m.fate(m.live[s.N])
		m.doubt = &next
		delete(m.live, s.N)
	case api.XSweep:
		m.rows = nil
	}
}

// crash: behind it is what was committed, and perhaps what was to be, unless the database can't be opened.
func (m *model) crash(t *testing.T, s api.Step) api.Echo {
	t.Helper()
	got := m.e.Do(s)
	m.ends[got.Err]++
	m.echoes = append(m.echoes, got)
	if !sameEcho(got, wrong(got.Err)) || got.Err != api.OK && !m.mayRefuse(got.Err) {
		t.Fatalf("a crash = %+v", got)
	}
	if got.Err != api.OK {
		m.down, m.live = got.Err, map[int]*txn{}
	} else {
		if m.doubt != nil && m.e.Last() == m.doubt.last {
			m.adopt(*m.doubt)
		}
		m.restart(m.now)
	}
	m.same(t)
	return got
}

// same holds what the engine tells of the head against the model.
func (m *model) same(t *testing.T) {
	t.Helper()
	if m.down == api.OK {
		is(t, m.e, m.now.last, m.now.head)
		return
	}
	if m.e.Down() != m.down || m.e.Last() != 0 || len(m.e.Net().Verts)+len(m.e.Net().Edges)+len(m.e.Props()) != 0 {
		t.Fatalf("Down = %d, want %d; %d, %v, %v", m.e.Down(), m.down, m.e.Last(), m.e.Net(), m.e.Props())
	}
}

// someWrite is a write of few elements, now and then a wrong one.
func someWrite(r *rand.Rand, ids int) api.Write {
	id := func() int {
		if r.IntN(60) == 0 {
			return []int{0, -1, api.MaxId + 1, math.MaxInt}[r.IntN(4)]
		}
		return 1 + r.IntN(ids)
	}
	w := api.Write{Kind: []int{1, 1, 1, 2, 3, 3, 3, 3, 4, 4, 5, 5, 5, 6}[r.IntN(14)], Id: id(), U: id(), V: id()}
	w.W = []int64{0, 1, 2, int64(r.IntN(9)), r.Int64N(api.MaxWeight)}[r.IntN(5)]
	w.Of = api.Ref{Edge: r.IntN(2) == 0, Id: id()}
	w.Name = []string{"a", "b", "abcdefghijklmnop", "A"}[min(r.IntN(30)/9, 3)]
	w.Val = []api.Value{number(int64(r.IntN(3))), text("xyz"[:r.IntN(4)]), {Kind: api.VGauss, C: complex(float64(r.IntN(3)), -1)}, {}}[min(r.IntN(30)/9, 3)]
	if w.Kind == api.WAddE || w.Kind == api.WDelE {
		w.Id += r.IntN(2) * ids
	}
	switch r.IntN(80) {
	case 0:
		w.W = []int64{-1, api.MaxWeight + 1}[r.IntN(2)]
	case 1:
		w.Kind = []int{0, -1, 7}[r.IntN(3)]
	}
	return w
}

// someQuery is a question about few elements, now and then one that can't be.
func someQuery(r *rand.Rand, ids int) api.Query {
	w := someWrite(r, ids)
	q := api.Query{Kind: 1 + r.IntN(11), U: w.U, V: w.V, Of: w.Of, Name: w.Name}
	if r.IntN(60) == 0 {
		q.Kind = []int{0, 12, -1}[r.IntN(3)]
	}
	return q
}

// some is a transaction's number, mostly of one that is under way.
func (m *model) some(r *rand.Rand) int {
	if under := slices.Sorted(maps.Keys(m.live)); len(under) > 0 && r.IntN(15) > 0 {
		return under[r.IntN(len(under))]
	}
	return r.IntN(m.begun+3) - 1
}

// quiet is a step of any kind but XPlan and XCrash.
func (m *model) quiet(r *rand.Rand, ids int) api.Step {
	switch k := r.IntN(60); {
	case k < 6 || len(m.live) == 0 && k < 40:
		return step(api.XBegin)
	case k < 36:
		return put(m.some(r), someWrite(r, ids))
	case k < 48:
		return question(m.some(r), someQuery(r, ids))
	case k < 55:
		return end(m.some(r))
	case k < 57:
		return giveUp(m.some(r))
	case k < 58:
		return step(api.XCheck)
	case k < 59:
		return step(api.XSweep)
	}
	return step([]int{0, -1, 10}[r.IntN(3)])
}

// someKeeps are sectors that persist: none, all, any, or such as there are none.
func (m *model) someKeeps(r *rand.Rand) []int {
	var keeps []int
	often := r.IntN(5)
	for i := -1; i <= m.sectors; i++ {
		if r.IntN(4) < often {
			keeps = append(keeps, i)
		}
	}
	return keeps
}

// someFates are fates of steps that are soon to come, now and then wrong ones.
func someFates(r *rand.Rand, far int) []api.Fate {
	var fates []api.Fate
	for range 1 + r.IntN(3) {
		f := api.Fate{Step: 1 + r.IntN(far), Kind: 1 + r.IntN(3)}
		switch r.IntN(20) {
		case 0:
			f.Kind = []int{0, 4, -1}[r.IntN(3)]
		case 1:
			f.Step = []int{0, -1, math.MaxInt, math.MinInt, 1 << 40}[r.IntN(5)]
		}
		fates = append(fates, f)
	}
	return fates
}

// wild is a step of any kind.
func (m *model) wild(r *rand.Rand, ids int) api.Step {
	odds := 150
	if m.dead || m.down != api.OK {
		odds = 8
	}
	switch k := r.IntN(odds); {
	case k < 2 && r.IntN(4) == 0:
		return plan()
	case k < 2:
		return plan(someFates(r, []int{5, 40, 150}[r.IntN(3)])...)
	case k < 4:
		return crash(m.someKeeps(r)...)
	}
	return m.quiet(r, ids)
}

// shape is what a run is like.
type shape struct {
	name               string
	pages, log, frames int
	ids                int
	seeds              []int
}

func (x shape) conf() api.Conf {
	return api.Conf{Sectors: x.log + x.pages, Log: x.log, Frames: x.frames, Seeds: x.seeds}
}

var shapes = []shape{
	{"wide", 400, 400, 8, 12, nil},
	{"few", 200, 200, 2, 3, []int{0}},
	{"many", 300, 200, 1, 25, []int{3, -3, 9}},
	{"narrow", 5, 100, 3, 20, []int{1}},
	{"shortLog", 200, 9, 4, 20, []int{7, 7}},
}

// cameUp: each of these errors was answered at least once, each of those never.
func cameUp(t *testing.T, ends map[api.Errno]int, yes, no []api.Errno) {
	t.Helper()
	for _, e := range yes {
		if ends[e] == 0 {
			t.Errorf("%d never came up", e)
		}
	}
	for _, e := range no {
		if ends[e] > 0 {
			t.Errorf("%d came up", e)
		}
	}
}

var ordinary = []api.Errno{api.OK, api.ErrArg, api.ErrExists, api.ErrNotFound, api.ErrInUse, api.ErrWeight, api.ErrValue, api.ErrNoPath,
	api.ErrConflict, api.ErrNoTxn, api.ErrTxns}

// P24.1: any steps in any order, while nothing befalls the disk.
func TestAnyQuietSteps(t *testing.T) {
	for _, x := range shapes {
		t.Run(x.name, func(t *testing.T) {
			ends := map[api.Errno]int{}
			for seed := range uint64(4) {
				r := rand.New(rand.NewPCG(seed, 24))
				m := newModel(t, x.conf())
				m.ends = ends
				for range 2500 {
					m.do(t, m.quiet(r, x.ids))
				}
			}
			cameUp(t, ends, ordinary, []api.Errno{api.ErrDead, api.ErrPower, api.ErrDisk, api.ErrCorrupt})
		})
	}
}

// P24.2: any steps in any order, with fates and crashes, of opening too, and any sectors that persist.
func TestAnySteps(t *testing.T) {
	for _, x := range shapes {
		t.Run(x.name, func(t *testing.T) {
			ends := map[api.Errno]int{}
			for seed := range uint64(12) {
				r := rand.New(rand.NewPCG(seed, 42))
				m := newModel(t, x.conf())
				m.ends = ends
				for range 3000 {
					m.do(t, m.wild(r, x.ids))
				}
			}
			cameUp(t, ends, append([]api.Errno{api.ErrDead, api.ErrPower, api.ErrDisk}, ordinary...), []api.Errno{api.ErrCorrupt})
			if full := ends[api.ErrDiskFull] > 0; full != (x.pages < 30) {
				t.Errorf("ErrDiskFull came up: %t", full)
			}
			if full := ends[api.ErrLogFull] > 0; full != (x.log < 30) {
				t.Errorf("ErrLogFull came up: %t", full)
			}
		})
	}
}

// P24.1: frames, seeds and the log's size change no answer, nor do checkpoints and sweeps in between.
func TestWhatChangesNothing(t *testing.T) {
	var wanted []api.Echo
	for i, conf := range []api.Conf{{Frames: 1}, {Frames: 2}, {Frames: 2, Seeds: []int{7, 1}}, {Frames: 9, Seeds: []int{-1, 0, 5}}, {Frames: 64}, {}} {
		conf.Log = 120 + 80*(i%2)
		conf.Sectors = conf.Log + 600
		r := rand.New(rand.NewPCG(5, 24))
		m := newModel(t, conf)
		var echoes []api.Echo
		for n := range 2000 {
			s := m.quiet(r, 14)
			got := m.do(t, s)
			if s.Kind != api.XSweep {
				echoes = append(echoes, got)
			}
			if i > 0 && n%(3*i) == 0 {
				m.do(t, step(api.XCheck))
				m.do(t, step(api.XSweep))
			}
		}
		if i > 0 && !slices.EqualFunc(echoes, wanted, sameEcho) {
			t.Fatalf("%+v: other echoes", conf)
		}
		wanted = echoes
	}
}

// P2: chance changes neither an answer nor what the disk has; nor does anything that isn't handed in.
func TestChance(t *testing.T) {
	var wanted []api.Echo
	var data []byte
	for i, seeds := range [][]int{nil, nil, {7, 1}, {math.MinInt}, {0, 0, 5, -9}} {
		r := rand.New(rand.NewPCG(6, 24))
		m := newModel(t, api.Conf{Sectors: 400, Log: 100, Frames: 2, Seeds: seeds})
		for range 1500 {
			m.do(t, m.wild(r, 14))
		}
		if i > 0 && !slices.EqualFunc(m.echoes, wanted, sameEcho) {
			t.Fatalf("seeds %v: other echoes", seeds)
		}
		if i > 0 && !bytes.Equal(m.e.Data(), data) {
			t.Fatalf("seeds %v: the disk has something else", seeds)
		}
		wanted, data = m.echoes, m.e.Data()
	}
}
