package recov_test

import (
	"math/rand/v2"
	"slices"
	"testing"

	"skein/api"
	"skein/disk"
	"skein/num"
	"skein/page"
	"skein/recov"
)

// model is what a store has to tell: a plain list of pages.
type model struct {
	d        *disk.Disk
	s        *recov.Store
	conf     api.Conf
	safe     []string // by a page's number its content, as of the units that are done; none if it is no page
	now      []string // as of the unit under way
	doubt    []string // as of the unit whose Commit was refused by a step; nil if none was
	active   bool
	dead     bool
	used     int // bytes of the log's stream
	failing  int // the kind of the fate of the step that is to be refused
	fails    int // that step's number
	refusals int // how often a Write was answered ErrLogFull
	checks   int // how often a Begin has made a checkpoint
}

const never = 1 << 40

// newModel is the model of a store on a disk, as it is opened.
func newModel(t *testing.T, d *disk.Disk, conf api.Conf) *model {
	t.Helper()
	m := &model{d: d, conf: conf, fails: never}
	m.s = open(t, d, conf.Log, conf.Frames)
	m.safe = m.told(t)
	m.now = slices.Clone(m.safe)
	return m
}

// told are all pages as the store tells them.
func (m *model) told(t *testing.T) []string {
	t.Helper()
	var out []string
	for n := range m.s.Pages() {
		g, e := m.s.Read(n)
		switch {
		case g != nil && e == api.OK:
			out = append(out, content(g))
		case g == nil && e == api.ErrCorrupt:
			out = append(out, "")
		default:
			t.Fatalf("Read(%d) = %v, %d", n, g, e)
		}
	}
	return out
}

// meets is the error that a call has to answer, if it has done the steps that the disk has counted since.
func (m *model) meets(since int, want api.Errno) api.Errno {
	if m.dead || since >= m.fails || m.d.Steps() < m.fails {
		return want
	}
	m.dead = true
	if m.failing == api.FFail {
		return api.ErrDisk
	}
	return api.ErrPower
}

// check holds the answer of a call that began at some step against the one that is wanted if no step is refused.
func (m *model) check(t *testing.T, what string, since int, e, wanted api.Errno) bool {
	t.Helper()
	if m.dead {
		wanted = api.ErrDead
	}
	want(t, what, e, m.meets(since, wanted))
	return e == api.OK
}

func (m *model) readError(n int) api.Errno {
	if n < 0 || n >= len(m.now) {
		return api.ErrArg
	}
	if m.now[n] == "" {
		return api.ErrCorrupt
	}
	return api.OK
}

func (m *model) read(t *testing.T, n int) {
	t.Helper()
	since := m.d.Steps()
	g, e := m.s.Read(n)
	if m.check(t, "Read", since, e, m.readError(n)) != (g != nil) {
		t.Fatalf("Read(%d) = %v, %d", n, g, e)
	}
	if g != nil && content(g) != m.now[n] {
		t.Fatalf("page %d has another content", n)
	}
}

// recordBytes is how many bytes of the stream a change takes; 0 if nothing differs.
func recordBytes(n int, was, is string) int {
	first, last := -1, -1
	for i := range was {
		if was[i] != is[i] {
			if first < 0 {
				first = i
			}
			last = i
		}
	}
	if first < 0 {
		return 0
	}
	b := body(n, first+headBytes, []byte(was[first:last+1]), []byte(is[first:last+1]))
	return 1 + len(num.PutText(b))
}

func (m *model) write(t *testing.T, n int, g *page.Page) {
	t.Helper()
	wanted, takes := m.readError(n), 0
	if wanted == api.OK {
		takes = recordBytes(n, m.now[n], content(g))
		if takes > 0 && m.used+takes+2 > m.conf.Log*perSector {
			wanted = api.ErrLogFull
			m.refusals++
		}
	}
	if !m.active {
		wanted = api.ErrIdle
	}
	since := m.d.Steps()
	if m.check(t, "Write", since, m.s.Write(n, g), wanted) {
		m.now[n] = content(g)
		m.used += takes
	}
}

func (m *model) begin(t *testing.T) {
	t.Helper()
	wanted := api.OK
	if m.active {
		wanted = api.ErrActive
	}
	since := m.d.Steps()
	if m.check(t, "Begin", since, m.s.Begin(), wanted) {
		m.active = true
		if 2*m.used > m.conf.Log*perSector {
			m.used = 0
			m.checks++
		}
	}
}

func (m *model) idle() api.Errno {
	if m.active {
		return api.OK
	}
	return api.ErrIdle
}

func (m *model) commit(t *testing.T) {
	t.Helper()
	since, was := m.d.Steps(), m.dead
	if m.check(t, "Commit", since, m.s.Commit(), m.idle()) {
		m.active = false
		m.used += 2
		m.safe = slices.Clone(m.now)
	} else if m.dead && !was {
		m.doubt = slices.Clone(m.now)
	}
}

func (m *model) abort(t *testing.T) {
	t.Helper()
	since := m.d.Steps()
	if m.check(t, "Abort", since, m.s.Abort(), m.idle()) {
		m.active = false
		m.used += 2
		m.now = slices.Clone(m.safe)
	}
}

func (m *model) checkpoint(t *testing.T) {
	t.Helper()
	wanted := api.OK
	if m.active {
		wanted = api.ErrActive
	}
	since := m.d.Steps()
	if m.check(t, "Checkpoint", since, m.s.Checkpoint(), wanted) {
		m.used = 0
	}
}

// call does one call, of a list that is the same for the same chance, however calls end.
func (m *model) call(t *testing.T, r *rand.Rand) {
	t.Helper()
	n, x, what, where := r.IntN(len(m.now)), r.IntN(80), r.IntN(40), r.IntN(40)
	if where == 0 {
		n = -1 - n
	} else if where == 1 {
		n += len(m.now)
	}
	switch {
	case what < 8:
		m.read(t, n)
	case what < 22:
		m.write(t, n, some(x))
	case what < 23:
		m.write(t, n, page.New(0, 0))
	case what < 30:
		m.begin(t)
	case what < 35:
		m.commit(t)
	case what < 38:
		m.abort(t)
	case what < 39:
		m.checkpoint(t)
	default:
		m.readAll(t)
	}
	if m.s.Dead() != m.dead || m.s.Active() != m.active {
		t.Fatalf("Dead %v, Active %v", m.s.Dead(), m.s.Active())
	}
}

func (m *model) readAll(t *testing.T) {
	t.Helper()
	for n := range m.now {
		m.read(t, n)
	}
}

// keep are those of the pending sectors that persist: none, all, one, or any.
func keep(r *rand.Rand, loose []int) []int {
	switch x := r.IntN(4); {
	case x == 0 || len(loose) == 0:
		return nil
	case x == 1:
		return loose
	case x == 2:
		return []int{loose[r.IntN(len(loose))]}
	}
	return slices.DeleteFunc(loose, func(int) bool { return r.IntN(2) == 0 })
}

// anew opens the disk anew, behind a crash or, if the power is on, perhaps without one; a step of Open is refused so many times. It tells whether the pages are as they may be.
func (m *model) anew(t *testing.T, r *rand.Rand, refusals int) {
	t.Helper()
	for after := 0; ; after++ {
		m.d.Plan()
		if !m.d.Power() || r.IntN(2) == 0 {
			m.d.On(keep(r, m.d.Loose())...)
		}
		kind, steps := 1+r.IntN(3), m.d.Steps()
		wanted := api.OK
		if after < refusals {
			refuse(m.d, after, kind)
		}
		s, e := recov.Open(m.d, m.conf)
		if after < refusals && m.d.Steps() > steps+after {
			wanted = map[int]api.Errno{api.FFail: api.ErrDisk, api.FBefore: api.ErrPower, api.FBehind: api.ErrPower}[kind]
		}
		if e != wanted || (s == nil) != (e != api.OK) || e != api.OK && m.d.Steps() != steps+after+1 {
			t.Fatalf("Open = %v, %d, want %d, %d steps", s, e, wanted, m.d.Steps()-steps)
		}
		if e == api.OK {
			m.s = s
			break
		}
	}
	m.d.Plan()
	m.opened(t)
}

// opened tells whether the pages are as they may be behind an Open, and goes on with them.
func (m *model) opened(t *testing.T) {
	t.Helper()
	m.wake(t)
	got := m.told(t)
	if !slices.Equal(got, m.safe) && !(m.doubt != nil && slices.Equal(got, m.doubt)) {
		t.Fatal("behind Open there are other pages")
	}
	if len(m.d.Loose()) != 0 {
		t.Fatalf("pending behind Open: %v", m.d.Loose())
	}
	m.safe, m.now, m.doubt = got, slices.Clone(got), nil
	m.active, m.dead, m.used, m.fails = false, false, 0, never
}

// wake takes pages in that were none for their LSN alone: as the log's End rises, it may come to be below.
func (m *model) wake(t *testing.T) {
	t.Helper()
	for n, x := range m.safe {
		if x != "" {
			continue
		}
		if g, e := m.s.Read(n); e == api.OK {
			m.safe[n], m.now[n] = content(g), content(g)
			if m.doubt != nil {
				m.doubt[n] = content(g)
			}
		}
	}
}
