package mvcc_test

import (
	"math/rand/v2"
	"slices"
	"testing"

	"skein/api"
	"skein/mvcc"
)

// done is a commit that has touched something, or a transaction that is under way and has touched something until now.
type done struct {
	start, time int64
	refs        []api.Ref
}

// model is what a table has to tell: a list of all that was ever done.
type model struct {
	x       *mvcc.Table
	last    int64
	begun   int
	live    map[int]*done
	commits []done
	horizon int64 // as it was told last
	fails   map[api.Errno]int
}

func newModel(last int64) *model {
	return &model{x: mvcc.New(last), last: last, live: map[int]*done{}, horizon: last, fails: map[api.Errno]int{}}
}

// same holds what the table tells of itself against the model.
func (m *model) same(t *testing.T) {
	t.Helper()
	var live []int
	horizon := m.last
	for n := 1; n <= m.begun; n++ {
		if x := m.live[n]; x != nil {
			live = append(live, n)
			horizon = min(horizon, x.start)
			starts(t, m.x, n, x.start)
		}
	}
	is(t, m.x, m.last, horizon, live...)
	if horizon < m.horizon { // P14.3
		t.Fatalf("the horizon falls from %d to %d", m.horizon, horizon)
	}
	m.horizon = horizon
}

// fate is how a commit of a transaction has to end.
func (m *model) fate(n int) (int64, api.Errno) {
	x := m.live[n]
	if x == nil {
		return 0, api.ErrNoTxn
	}
	for _, c := range m.commits {
		if c.time > x.start && slices.ContainsFunc(c.refs, func(r api.Ref) bool { return slices.Contains(x.refs, r) }) {
			return 0, api.ErrConflict
		}
	}
	if len(x.refs) == 0 {
		return x.start, api.OK
	}
	if m.last == api.MaxTime {
		return 0, api.ErrLong
	}
	return m.last + 1, api.OK
}

func (m *model) begin(t *testing.T) {
	t.Helper()
	n, e := m.x.Begin()
	if len(m.live) == api.MaxTxns {
		if n != 0 || e != api.ErrTxns {
			t.Fatalf("Begin = %d, %d", n, e)
		}
		m.fails[e]++
		return
	}
	m.begun++
	if n != m.begun || e != api.OK {
		t.Fatalf("Begin = %d, %d, want %d", n, e, m.begun)
	}
	m.live[n] = &done{start: m.last}
}

func (m *model) touch(t *testing.T, n int, refs []api.Ref) {
	t.Helper()
	wanted := api.ErrNoTxn
	if x := m.live[n]; x != nil {
		wanted = api.OK
		x.refs = append(x.refs, refs...)
	}
	want(t, "Touch", m.x.Touch(n, refs...), wanted)
}

func (m *model) commit(t *testing.T, n int) {
	t.Helper()
	time, fails := m.fate(n)
	m.fails[fails]++
	want(t, "Try", m.x.Try(n), fails)
	if got, e := m.x.Commit(n); got != time || e != fails {
		t.Fatalf("Commit(%d) = %d, %d, want %d, %d", n, got, e, time, fails)
	}
	if fails == api.OK && len(m.live[n].refs) > 0 {
		m.last = time
		m.commits = append(m.commits, done{m.live[n].start, time, m.live[n].refs})
	}
	delete(m.live, n)
}

func (m *model) abort(t *testing.T, n int) {
	t.Helper()
	wanted := api.ErrNoTxn
	if m.live[n] != nil {
		wanted = api.OK
	}
	want(t, "Abort", m.x.Abort(n), wanted)
	delete(m.live, n)
}

// any is the number of a transaction, mostly of one that is under way.
func (m *model) any(r *rand.Rand) int {
	if live := m.x.Live(); len(live) > 0 && r.IntN(12) > 0 {
		return live[r.IntN(len(live))]
	}
	return r.IntN(m.begun+3) - 1
}

func (m *model) call(t *testing.T, r *rand.Rand, ids int) {
	t.Helper()
	switch r.IntN(8) {
	case 0, 1:
		m.begin(t)
	case 2, 3, 4:
		var refs []api.Ref
		for range r.IntN(4) {
			refs = append(refs, api.Ref{Edge: r.IntN(2) == 0, Id: r.IntN(ids)})
		}
		m.touch(t, m.any(r), refs)
	case 5, 6:
		m.commit(t, m.any(r))
	case 7:
		if r.IntN(3) == 0 {
			m.abort(t, m.any(r))
		}
	}
	for n := m.begun - 20; n < m.begun+2; n++ {
		_, fails := m.fate(n)
		want(t, "Try", m.x.Try(n), fails)
	}
	m.same(t)
}

// P14.1, P14.3: any calls in any order.
func TestAnyCalls(t *testing.T) {
	fails := map[api.Errno]int{}
	for seed := range uint64(120) {
		r := rand.New(rand.NewPCG(seed, 14))
		last := int64(r.IntN(9))
		if seed%3 == 0 {
			last = api.MaxTime - int64(r.IntN(30))
		}
		m := newModel(last)
		ids := []int{2, 20, 200}[r.IntN(3)]
		for range 400 {
			m.call(t, r, ids)
		}
		m.apart(t)
		for i, c := range m.commits { // P14.3
			if c.time != last+int64(i)+1 {
				t.Fatalf("commit %d has the time %d behind %d", i, c.time, last)
			}
		}
		for e, n := range m.fails {
			fails[e] += n
		}
	}
	for _, e := range []api.Errno{api.OK, api.ErrConflict, api.ErrLong, api.ErrNoTxn, api.ErrTxns} {
		if fails[e] < 100 {
			t.Errorf("%d came up %d times", e, fails[e])
		}
	}
}

// apart, P14.2: of two commits of the same element one began at or behind the other's time.
func (m *model) apart(t *testing.T) {
	t.Helper()
	for i, a := range m.commits {
		for _, b := range m.commits[:i] {
			if a.start >= b.time {
				continue
			}
			for _, r := range a.refs {
				if slices.Contains(b.refs, r) {
					t.Fatalf("both have touched %v: the commits %d (since %d) and %d", r, a.time, a.start, b.time)
				}
			}
		}
	}
}

// Many commits while one transaction is under way, and many elements: what is kept of them costs no more than they do.
func TestManyCommits(t *testing.T) {
	x := mvcc.New(0)
	begin(t, x, 1)
	touch(t, x, 1, edge(1))
	const many = 100000
	for i := range many {
		begin(t, x, i+2)
		touch(t, x, i+2, vertex(i), vertex(i+many))
		commits(t, x, i+2, int64(i)+1, api.OK)
	}
	is(t, x, many, 0, 1)
	touch(t, x, 1, vertex(many-1))
	commits(t, x, 1, 0, api.ErrConflict)
	is(t, x, many, many)
}
