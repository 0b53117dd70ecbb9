package btree_test

import (
	"fmt"
	"maps"
	"math/rand/v2"
	"strings"
	"testing"

	"skein/api"
	"skein/btree"
	"skein/disk"
	"skein/recov"
)

// refuses wants the error of a step that was refused, and a store that is dead for it.
func (m *model) refuses(t *testing.T, what string, kind int, e api.Errno) {
	t.Helper()
	wanted := api.ErrPower
	if kind == api.FFail {
		wanted = api.ErrDisk
	}
	want(t, what, e, wanted)
	if m.s != nil && !m.s.Dead() {
		t.Fatalf("behind %s the store isn't dead", what)
	}
	if m.b != nil {
		isDead(t, m.b)
	}
}

// life opens a tree and does units in it until a step is refused; false if none is.
func (m *model) life(t *testing.T, kind int, units []func(key string) (string, bool)) bool {
	t.Helper()
	var e api.Errno
	m.s, m.b = nil, nil
	if m.s, e = recov.Open(m.d, m.conf); e != api.OK {
		m.refuses(t, "recov.Open", kind, e)
		return true
	}
	if m.b, e = btree.Open(m.s); e != api.OK {
		m.refuses(t, "Open", kind, e)
		return true
	}
	for i, f := range units {
		if m.lives(t, kind, i%3 == 2, f) {
			return true
		}
	}
	return false
}

// lives does a unit; true if a step was refused.
func (m *model) lives(t *testing.T, kind int, givesUp bool, f func(key string) (string, bool)) bool {
	t.Helper()
	if e := m.s.Begin(); e != api.OK {
		m.refuses(t, "Begin", kind, e)
		return true
	}
	now := maps.Clone(m.safe)
	for i := range 9 {
		key := fmt.Sprint(strings.Repeat("k", 3*i), i)
		val, put := f(key)
		var e api.Errno
		if put {
			e = m.b.Put([]byte(key), []byte(val))
			now[key] = val
		} else {
			_, e = m.b.Del([]byte(key))
			delete(now, key)
		}
		if e != api.OK {
			m.refuses(t, "a Put or Del", kind, e)
			return true
		}
	}
	if e := m.b.Check(); e != api.OK {
		m.refuses(t, "Check", kind, e)
		return true
	}
	if givesUp {
		if e := m.s.Abort(); e != api.OK {
			m.refuses(t, "Abort", kind, e)
			return true
		}
		return false
	}
	if e := m.s.Commit(); e != api.OK {
		m.refuses(t, "Commit", kind, e)
		m.doubt = now
		return true
	}
	m.safe = now
	return false
}

// someUnits are units by what becomes of each key.
func someUnits() []func(key string) (string, bool) {
	var out []func(key string) (string, bool)
	for i := range 4 {
		out = append(out, func(key string) (string, bool) {
			n := (i*7 + len(key)*5) % 11
			return strings.Repeat(string(rune('a'+i)), n*9), n > 3
		})
	}
	return out
}

// P12.4: each step of a whole life is refused in each way, and one of those with which the next one begins.
func TestEachStepRefused(t *testing.T) {
	for kind := api.FFail; kind <= api.FBehind; kind++ {
		for step := 1; ; step++ {
			r := rand.New(rand.NewPCG(uint64(step), uint64(kind)))
			m := &model{d: disk.New(70), conf: api.Conf{Log: 60, Frames: kind}, safe: map[string]string{}}
			second := api.Fate{Step: step + 1 + r.IntN(6), Kind: api.FBefore + r.IntN(2)}
			m.d.Plan(api.Fate{Step: step, Kind: kind}, second)
			if !m.life(t, kind, someUnits()) {
				break
			}
			m.settle(r)
			m.life(t, second.Kind, nil)
			m.d.Plan()
			m.crash(t, r)
			m.same(t)
			if m.life(t, 0, someUnits()[:2]) {
				t.Fatal("a step was refused")
			}
			m.now = m.safe
			m.same(t)
		}
	}
}
