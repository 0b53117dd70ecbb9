package btree_test

import (
	"fmt"
	"math/rand/v2"
	"strings"
	"testing"

	"skein/api"
)

// hard are runs of keys and values that need much room, or leave much of it unused.
var hard = []shape{
	{"none", 400, 0, 1, 256, 0, 0, 300, 3, ""},
	{"long", 400, 40, 40, 5, 100, 0, 300, 3, ""},
	{"longKeys", 400, 40, 40, 5, 0, 0, 300, 3, ""},
	{"longKeysAlike", 400, 40, 40, 5, 0, 0, 300, 3, "all keys begin with these letters: "},
	{"mixed", 400, 0, 40, 4, 100, 0, 300, 3, ""},
}

// P12.3: a store of so many pages takes (Pages - 6) / 2 pairs, whatever they are, again and again.
func TestRoom(t *testing.T) {
	for _, x := range hard {
		for pages := 2; pages < 40; pages++ {
			r := rand.New(rand.NewPCG(uint64(pages), 3))
			m := newModel(t, x.log+pages, x.log, x.frames)
			keys := x.keysOf(r)
			for range 3 {
				m.fill(t, r, x, keys, max(pages-6, 0)/2)
				m.same(t)
				m.empty(t, r)
				m.same(t)
			}
		}
	}
}

// fill puts pairs, and takes some of them away between, till there are so many.
func (m *model) fill(t *testing.T, r *rand.Rand, x shape, keys []string, most int) {
	t.Helper()
	for i := 0; len(m.now) < most || i < 20; i++ {
		m.begin(t)
		key := keys[r.IntN(len(keys))]
		_, found := m.now[key]
		going := true
		if r.IntN(5) == 0 {
			going = m.del(t, key)
		} else if found || len(m.now) < most {
			going = m.put(t, key, x.valueOf(r))
		}
		if !going {
			t.Fatal("there is no room")
		}
		m.commit(t)
	}
}

// empty takes all keys away.
func (m *model) empty(t *testing.T, r *rand.Rand) {
	t.Helper()
	for len(m.safe) > 0 {
		m.begin(t)
		for key := range m.safe {
			if r.IntN(3) > 0 && !m.del(t, key) {
				t.Fatal("there is no room")
			}
		}
		m.commit(t)
	}
}

// P12.3: behind ErrDiskFull the unit is given up, and what was there goes on.
func TestDiskFull(t *testing.T) {
	for _, pages := range []int{2, 3, 5, 6, 7, 8, 20} {
		m := newModel(t, 200+pages, 200, 3)
		val := strings.Repeat("v", api.MaxValLen)
		for i := 0; m.full < 3; i++ {
			m.begin(t)
			if m.put(t, fmt.Sprintf("%040d", i), val) {
				m.commit(t)
			} else {
				m.abort(t)
			}
			m.same(t)
		}
		if len(m.now) < max(3, pages) {
			t.Errorf("%d pages take %d pairs", pages, len(m.now))
		}
		m.begin(t)
		m.del(t, fmt.Sprintf("%040d", 0))
		m.put(t, "a", "")
		m.commit(t)
		m.same(t)
	}
}

// ErrDiskFull is looked for ahead of ErrLogFull, and both behind what is wrong with the arguments.
func TestDiskFullAheadOfLogFull(t *testing.T) {
	m := newModel(t, 7+2, 7, 3)
	val := strings.Repeat("v", api.MaxValLen)
	key := func(i int) []byte { return []byte(fmt.Sprintf("%040d", i)) }
	for i := range 3 {
		m.begin(t)
		m.put(t, string(key(i)), val)
		m.commit(t)
	}
	m.begin(t)
	for i := 0; m.short == 0; i++ {
		m.put(t, string(key(0)), val[:99+i%2])
	}
	want(t, "Put of what there is", m.b.Put(key(0), []byte("0")), api.ErrLogFull)
	if gone, e := m.b.Del(key(0)); gone || e != api.ErrLogFull {
		t.Errorf("Del of what there is = %t, %d", gone, e)
	}
	want(t, "Put of what needs a page", m.b.Put(key(9), []byte(val)), api.ErrDiskFull)
	want(t, "Put of a long key", m.b.Put(append(key(9), 0), []byte(val)), api.ErrLong)
	m.abort(t)
	m.same(t)
}

// A unit of n Puts and Dels has room in a log of 200 n sectors, whatever the tree: here one of many levels, and a log of fewer sectors.
func TestLogRoom(t *testing.T) {
	const log = 60
	for _, x := range []shape{hard[1], hard[3]} {
		x.keys, x.letters = 6000, 26
		r := rand.New(rand.NewPCG(9, 9))
		m := newModel(t, 1500, log, 64)
		keys := x.keysOf(r)
		for i, key := range keys {
			m.single(t, func() bool { return m.put(t, key, strings.Repeat("v", x.value)) })
			if m.full > 0 {
				keys = keys[:i]
				break
			}
		}
		m.same(t)
		if n := m.levels(t); n < 4 {
			t.Errorf("%s: a tree of %d levels", x.name, n)
		}
		for range 2000 {
			key := keys[r.IntN(len(keys))]
			m.single(t, func() bool { return m.put(t, key, x.valueOf(r)) })
		}
		m.same(t)
		for _, key := range keys {
			m.single(t, func() bool { return m.del(t, key) })
		}
		m.same(t)
		if m.short > 0 {
			t.Errorf("%s: ErrLogFull", x.name)
		}
	}
}

// levels is how many levels the tree has.
func (m *model) levels(t *testing.T) int {
	t.Helper()
	most := 0
	for n := range m.s.Pages() {
		g, e := m.s.Read(n)
		want(t, "Read", e, api.OK)
		if g.Kind() == kindNode {
			most = max(most, int(g.Extra())+1)
		}
	}
	return most
}

// single does a call in a unit of its own.
func (m *model) single(t *testing.T, call func() bool) {
	t.Helper()
	want(t, "Begin", m.s.Begin(), api.OK)
	if call() {
		want(t, "Commit", m.s.Commit(), api.OK)
	} else {
		want(t, "Abort", m.s.Abort(), api.OK)
	}
}
