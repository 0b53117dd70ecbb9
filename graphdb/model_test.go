package graphdb_test

import (
	"fmt"
	"maps"
	"math"
	"math/rand/v2"
	"slices"
	"testing"

	"skein/api"
	"skein/disk"
	"skein/graph"
	"skein/graphdb"
	"skein/plain"
	"skein/store"
)

const never = 1 << 40

// txn is a transaction under way, as plain graphs have it.
type txn struct {
	start  int64
	sees   *graph.Graph
	refs   map[api.Ref]struct{}
	writes []api.Write
}

// past is a commit.
type past struct {
	time int64
	refs map[api.Ref]struct{}
}

// state is what a database has.
type state struct {
	last int64
	head *graph.Graph
}

// model is what a database has to tell: plain graphs, one for each commit.
type model struct {
	d       *disk.Disk
	b       *graphdb.DB
	conf    api.Conf
	now     state
	doubt   *state // what else there may be, if a commit was under way when a step was refused
	begun   int
	live    map[int]*txn
	commits []past
	dead    bool
	failing int // the kind of the fate of the step that is to be refused
	fails   int // that step's number
	ends    map[api.Errno]int
	story   []string // what was told, if it is to be held against another run's
}

// newModel is the model of a database on an empty disk.
func newModel(t *testing.T, sectors int, conf api.Conf) *model {
	t.Helper()
	d := disk.New(sectors)
	m := &model{d: d, b: open(t, d, conf), conf: conf, fails: never, ends: map[api.Errno]int{}}
	m.restart(state{head: graph.New()})
	return m
}

// restart goes on behind an opening.
func (m *model) restart(now state) {
	m.now, m.doubt, m.dead, m.fails = now, nil, false, never
	m.begun, m.live, m.commits = 0, map[int]*txn{}, nil
}

// refuse lets a step be refused that is so many further on.
func (m *model) refuse(after, kind int) {
	m.fails, m.failing = m.d.Steps()+1+after, kind
	m.d.Plan(api.Fate{Step: m.fails, Kind: kind})
}

// refusal is the error of a step that meets a fate.
func refusal(kind int) api.Errno {
	if kind == api.FFail {
		return api.ErrDisk
	}
	return api.ErrPower
}

// check holds a call's error against the one that is wanted if no step is refused. It tells whether the call went well.
func (m *model) check(t *testing.T, what string, e, wanted api.Errno) bool {
	t.Helper()
	switch {
	case m.dead:
		wanted = api.ErrDead
	case m.d.Steps() >= m.fails:
		m.dead = true
		wanted = refusal(m.failing)
	}
	m.ends[e]++
	m.story = append(m.story, fmt.Sprint(what, e))
	want(t, what, e, wanted)
	return e == api.OK
}

// same holds what the database tells without an error against the model.
func (m *model) same(t *testing.T) {
	t.Helper()
	is(t, m.b, m.now.last, m.now.head)
	live(t, m.b, slices.Sorted(maps.Keys(m.live))...)
}

func (m *model) begin(t *testing.T) {
	t.Helper()
	n, e := m.b.Begin()
	wanted := api.OK
	if len(m.live) == api.MaxTxns {
		wanted = api.ErrTxns
	}
	if !m.check(t, "Begin", e, wanted) {
		if n != 0 {
			t.Fatalf("Begin = %d, %d", n, e)
		}
		return
	}
	m.begun++
	if n != m.begun {
		t.Fatalf("Begin = %d, want %d", n, m.begun)
	}
	m.live[n] = &txn{start: m.now.last, sees: m.now.head.Clone(), refs: map[api.Ref]struct{}{}}
}

func (m *model) write(t *testing.T, n int, w api.Write) {
	t.Helper()
	e := m.b.Write(n, w)
	x, ok := m.live[n]
	if m.dead || !ok {
		m.check(t, "Write", e, api.ErrNoTxn)
		return
	}
	refs := x.sees.Refs(w)
	if !m.check(t, "Write", e, x.sees.Do(w)) {
		return
	}
	for _, r := range refs {
		x.refs[r] = struct{}{}
	}
	x.writes = append(x.writes, w)
}

func (m *model) ask(t *testing.T, n int, q api.Query) {
	t.Helper()
	a := m.b.Ask(n, q)
	wanted := api.Answer{Err: api.ErrNoTxn}
	if x, ok := m.live[n]; ok {
		wanted = plain.Ask(x.sees, q)
	}
	if !m.check(t, "Ask", a.Err, wanted.Err) {
		wanted = api.Answer{Err: a.Err}
	}
	m.story = append(m.story, fmt.Sprintf("%+v", a))
	if !sameAnswer(a, wanted) {
		t.Fatalf("Ask(%d, %+v) = %+v, want %+v", n, q, a, wanted)
	}
}

// fate is how a commit has to end, if there is room and no step is refused; and the head behind it.
func (m *model) fate(n int) (state, int64, api.Errno) {
	x, ok := m.live[n]
	if !ok {
		return m.now, 0, api.ErrNoTxn
	}
	for _, c := range m.commits {
		for r := range c.refs {
			if _, both := x.refs[r]; both && c.time > x.start {
				return m.now, 0, api.ErrConflict
			}
		}
	}
	if len(x.writes) == 0 {
		return m.now, x.start, api.OK
	}
	if m.now.last == api.MaxTime {
		return m.now, 0, api.ErrLong
	}
	next := state{m.now.last + 1, m.now.head.Clone()}
	for _, w := range x.writes {
		if e := next.head.Do(w); e != api.OK {
			return m.now, 0, e
		}
	}
	return next, next.last, api.OK
}

func (m *model) commit(t *testing.T, n int) {
	t.Helper()
	next, time, wanted := m.fate(n)
	got, e := m.b.Commit(n)
	if full := e == api.ErrDiskFull || e == api.ErrLogFull; full && wanted == api.OK && next.last > m.now.last && !m.roomy() {
		next, time, wanted = m.now, 0, e
	}
	dead := m.dead
	if !m.check(t, "Commit", e, wanted) {
		time = 0
		if m.dead && !dead && next.last > m.now.last {
			m.doubt = &next
		}
	}
	m.story = append(m.story, fmt.Sprint("time", got))
	if got != time {
		t.Fatalf("Commit(%d) = %d, %d, want %d", n, got, e, time)
	}
	if dead {
		return
	}
	if e == api.OK && next.last > m.now.last {
		m.now = next
		m.commits = append(m.commits, past{time, m.live[n].refs})
	}
	delete(m.live, n)
}

// roomy: no commit of a run lacks room.
func (m *model) roomy() bool { return m.conf.Log >= 100 && m.d.Size()-m.conf.Log >= 200 }

func (m *model) abort(t *testing.T, n int) {
	t.Helper()
	wanted := api.OK
	if m.live[n] == nil {
		wanted = api.ErrNoTxn
	}
	if m.check(t, "Abort", m.b.Abort(n), wanted) {
		delete(m.live, n)
	}
}

// sweep holds a Sweep against one of the table by itself, of the least start.
func (m *model) sweep(t *testing.T) {
	t.Helper()
	least := m.now.last
	for _, x := range m.live {
		least = min(least, x.start)
	}
	var s *store.Store
	if !m.dead {
		s, _ = store.Open(disk.Load(m.d.All()), m.conf)
	}
	n, e := m.b.Sweep()
	if !m.check(t, "Sweep", e, api.OK) {
		if n != 0 {
			t.Fatalf("Sweep = %d, %d", n, e)
		}
		return
	}
	wanted, _ := s.Sweep(least)
	left, _ := s.Versions()
	if n != wanted || versions(t, m.d, m.conf) != left {
		t.Fatalf("Sweep = %d, want %d; %d versions are left, want %d", n, wanted, versions(t, m.d, m.conf), left)
	}
}

// someWrite is a write of few elements, now and then a wrong one.
func someWrite(r *rand.Rand, ids int) api.Write {
	id := func() int {
		if r.IntN(60) == 0 {
			return []int{0, -1, api.MaxId + 1, math.MaxInt}[r.IntN(4)]
		}
		return 1 + r.IntN(ids)
	}
	w := api.Write{Kind: []int{1, 1, 1, 2, 3, 3, 3, 3, 4, 4, 5, 5, 5, 6}[r.IntN(14)], Id: id(), U: id(), V: id()}
	w.W = []int64{0, 1, 2, int64(r.IntN(9)), r.Int64N(api.MaxWeight)}[r.IntN(5)]
	w.Of = api.Ref{Edge: r.IntN(2) == 0, Id: id()}
	w.Name = []string{"a", "b", "abcdefghijklmnop", "A"}[min(r.IntN(30)/9, 3)]
	w.Val = []api.Value{number(int64(r.IntN(3))), text("xyz"[:r.IntN(4)]), {Kind: api.VGauss, C: complex(float64(r.IntN(3)), -1)}, {}}[min(r.IntN(30)/9, 3)]
	if w.Kind == api.WAddE || w.Kind == api.WDelE {
		w.Id += r.IntN(2) * ids
	}
	switch r.IntN(80) {
	case 0:
		w.W = []int64{-1, api.MaxWeight + 1}[r.IntN(2)]
	case 1:
		w.Kind = []int{0, -1, 7}[r.IntN(3)]
	}
	return w
}

// someQuery is a question about few elements, now and then one that can't be.
func someQuery(r *rand.Rand, ids int) api.Query {
	w := someWrite(r, ids)
	q := api.Query{Kind: 1 + r.IntN(11), U: w.U, V: w.V, Of: w.Of, Name: w.Name}
	if r.IntN(60) == 0 {
		q.Kind = []int{0, 12, -1}[r.IntN(3)]
	}
	return q
}

// some is a transaction's number, mostly of one that is under way.
func (m *model) some(r *rand.Rand) int {
	if under := slices.Sorted(maps.Keys(m.live)); len(under) > 0 && r.IntN(15) > 0 {
		return under[r.IntN(len(under))]
	}
	return r.IntN(m.begun+3) - 1
}

// call does one call.
func (m *model) call(t *testing.T, r *rand.Rand, ids int) {
	t.Helper()
	switch k := r.IntN(60); {
	case k < 6:
		m.begin(t)
	case k < 36:
		m.write(t, m.some(r), someWrite(r, ids))
	case k < 48:
		m.ask(t, m.some(r), someQuery(r, ids))
	case k < 55:
		m.commit(t, m.some(r))
	case k < 57:
		m.abort(t, m.some(r))
	case k < 58:
		m.check(t, "Check", m.b.Check(), api.OK)
	case k < 59:
		m.sweep(t)
	}
	m.same(t)
}

// anew opens the disk anew, behind a crash or, if there is power, perhaps without one. A step of opening is refused so many times.
func (m *model) anew(t *testing.T, r *rand.Rand, refusals int) {
	t.Helper()
	for after := 0; ; after++ {
		m.d.Plan()
		if !m.d.Power() || r.IntN(2) == 0 {
			m.d.On(slices.DeleteFunc(m.d.Loose(), func(int) bool { return r.IntN(2) == 0 })...)
		}
		steps, kind := m.d.Steps(), 1+r.IntN(3)
		if after < refusals {
			m.refuse(after, kind)
		}
		b, e := graphdb.Open(m.d, m.conf)
		wanted := api.OK
		if after < refusals && m.d.Steps() > steps+after {
			wanted = refusal(kind)
		}
		if e != wanted || (b == nil) != (e != api.OK) {
			t.Fatalf("Open = %v, %d, want %d", b, e, wanted)
		}
		if e == api.OK {
			m.b = b
			break
		}
	}
	m.d.Plan()
	m.opened(t)
}

// opened holds what is there behind an Open against what may be, and goes on with it.
func (m *model) opened(t *testing.T) {
	t.Helper()
	if m.doubt != nil && m.b.Last() == m.doubt.last {
		m.now = *m.doubt
	}
	m.restart(m.now)
	m.same(t)
}

// shape is what a run is like.
type shape struct {
	name               string
	pages, log, frames int
	ids                int
	seeds              []int
}

var shapes = []shape{
	{"wide", 400, 400, 8, 12, nil},
	{"few", 200, 200, 2, 3, []int{0}},
	{"many", 300, 200, 1, 25, []int{3, -3, 9}},
	{"narrow", 5, 100, 3, 20, []int{1}},
	{"shortLog", 200, 9, 4, 20, []int{7, 7}},
}

// P23.1, P23.2, P23.3: any calls in any order, steps that are refused, crashes of which any pending sectors persist, opening too.
func TestAnyCalls(t *testing.T) {
	for _, x := range shapes {
		t.Run(x.name, func(t *testing.T) {
			ends := map[api.Errno]int{}
			for seed := range uint64(6) {
				r := rand.New(rand.NewPCG(seed, 23))
				m := newModel(t, x.log+x.pages, api.Conf{Log: x.log, Frames: x.frames, Seeds: x.seeds})
				m.ends = ends
				for range 6 {
					if r.IntN(3) > 0 {
						m.refuse(r.IntN(150), 1+r.IntN(3))
					}
					for range 250 {
						m.call(t, r, x.ids)
					}
					m.anew(t, r, r.IntN(5))
				}
			}
			for _, e := range []api.Errno{api.OK, api.ErrArg, api.ErrExists, api.ErrNotFound, api.ErrInUse, api.ErrNoPath, api.ErrValue,
				api.ErrConflict, api.ErrNoTxn, api.ErrTxns, api.ErrDead, api.ErrPower, api.ErrDisk} {
				if ends[e] == 0 {
					t.Errorf("%d never came up", e)
				}
			}
			if full := ends[api.ErrDiskFull] > 0; full != (x.pages < 30) {
				t.Errorf("ErrDiskFull came up: %t", full)
			}
			if full := ends[api.ErrLogFull] > 0; full != (x.log < 30) {
				t.Errorf("ErrLogFull came up: %t", full)
			}
		})
	}
}

// P23.1: seeds and frames change nothing that is told; nor do checkpoints and sweeps.
func TestWhatChangesNothing(t *testing.T) {
	var wanted []string
	for i, conf := range []api.Conf{{Frames: 1}, {Frames: 2}, {Frames: 2, Seeds: []int{7, 1}}, {Frames: 9, Seeds: []int{-1, 0, 5}, Sectors: 3}, {Frames: 64}} {
		conf.Log = 120 + 80*(i%2)
		r := rand.New(rand.NewPCG(5, 23))
		m := newModel(t, 800, conf)
		var story []string
		for step := range 1200 {
			m.story = nil
			m.call(t, r, 14)
			story = append(story, m.story...)
			if i > 0 && step%(3*i) == 0 {
				want(t, "Check", m.b.Check(), api.OK)
				if _, e := m.b.Sweep(); e != api.OK {
					t.Fatalf("Sweep = %d", e)
				}
			}
		}
		if i > 0 && !slices.Equal(story, wanted) {
			t.Fatalf("%+v: another story is told", conf)
		}
		wanted = story
	}
}

// P23.1: the head's ways, when it is great: asked by those who see it, who have begun ahead of it, and who have written over it.
func TestGreatHead(t *testing.T) {
	const verts, edges = 150, 260
	for _, far := range []int{2, 9, verts} {
		r := rand.New(rand.NewPCG(23, uint64(far)))
		m := newModel(t, 1400, api.Conf{Log: 500, Frames: 8, Seeds: []int{far, 1}})
		some := func(id int) api.Write {
			u := r.IntN(verts)
			return addE(id, 1+u, 1+(u+r.IntN(far))%verts, r.Int64N(9))
		}
		m.begin(t)
		for id := 1; id <= verts; id++ {
			m.write(t, 1, addV(id))
		}
		for id := 1; id <= edges; id++ {
			m.write(t, 1, some(id))
		}
		m.commit(t, 1)
		for range 60 {
			m.begin(t)
			n := m.begun
			for range 3 {
				id := 1 + r.IntN(edges)
				m.write(t, n, delE(id))
				m.write(t, n, some(id))
			}
			for _, n := range slices.Sorted(maps.Keys(m.live)) {
				for kind := api.QJoined; kind <= api.QSpan; kind++ {
					m.ask(t, n, about(kind, 1+r.IntN(verts), 1+r.IntN(verts)))
				}
			}
			m.begin(t)
			m.commit(t, n)
			if len(m.live) > 5 {
				m.commit(t, slices.Min(slices.Collect(maps.Keys(m.live))))
			}
		}
		m.same(t)
		m.anew(t, r, 3)
		m.begin(t)
		for range 60 {
			m.ask(t, 1, about(api.QJoined+r.IntN(6), 1+r.IntN(verts), 1+r.IntN(verts)))
		}
	}
}
