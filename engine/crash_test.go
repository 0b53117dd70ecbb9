package engine_test

import (
	"maps"
	"math/rand/v2"
	"slices"
	"strings"
	"testing"

	"skein/api"
	"skein/crc"
	"skein/engine"
	"skein/graph"
)

// life does the same steps each time, until one of the disk's is refused; false if none is.
func (m *model) life(t *testing.T, value string) bool {
	t.Helper()
	for i := range 4 {
		n, id := m.begun+1, 10*(i+1)
		for _, s := range []api.Step{
			step(api.XBegin), step(api.XBegin),
			put(n, addV(id)), put(n, prop(vertex(id), "a", text(value))), put(n, addE(id, id, 10, int64(i))),
			put(n+1, addV(id)), put(n+1, addV(id+1)),
			end(n), end(n + 1),
			step(api.XCheck), step(api.XBegin),
			put(n+2, delE(id)), put(n+2, prop(vertex(10), "b", text(value))),
			end(n + 2),
			step(api.XSweep),
		} {
			m.do(t, s)
			if m.dead {
				return true
			}
		}
	}
	return false
}

// P24.2: each step of a life is refused in each way, then each of those of opening, and any pending sectors persist.
func TestCrashAtEachStep(t *testing.T) {
	for kind := api.FFail; kind <= api.FBehind; kind++ {
		for after := 1; ; after++ {
			r := rand.New(rand.NewPCG(uint64(after), uint64(kind)))
			m := newModel(t, someConf(40+200, 40, 1+after%3))
			m.do(t, fails(after, kind))
			over := !m.life(t, strings.Repeat("v", 50))
			m.do(t, fails(1, kind)) // opening's first step, then its second one and so on
			for i := 2; m.do(t, crash(m.someKeeps(r)...)).Err != api.OK; i++ {
				m.do(t, fails(i, 1+(kind+i)%3))
			}
			m.do(t, plan())
			if m.life(t, "next") {
				t.Fatal("a step was refused")
			}
			m.do(t, crash(m.someKeeps(r)...))
			if over {
				break
			}
		}
	}
}

// P24.2: whichever of the pending sectors persist, a commit that was cut off is there whole, or not at all.
func TestChoicesOfSectors(t *testing.T) {
	ends := map[int64]int{}
	for kind := api.FFail; kind <= api.FBehind; kind++ {
		for after, over := 1, false; !over; after++ {
			for choice := range uint64(12) {
				m := newModel(t, someConf(40+200, 40, 2))
				m.do(t, step(api.XBegin))
				m.do(t, put(1, addV(1)))
				m.do(t, put(1, prop(vertex(1), "a", text(strings.Repeat("x", 60)))))
				m.do(t, end(1))
				m.do(t, step(api.XBegin))
				for id := 2; id < 9; id++ {
					m.do(t, put(2, addV(id)))
					m.do(t, put(2, prop(vertex(id), "a", text(strings.Repeat("y", 60)))))
				}
				m.do(t, fails(after, kind))
				over = m.do(t, end(2)).Err == api.OK
				m.do(t, plan())
				m.do(t, crash(m.someKeeps(rand.New(rand.NewPCG(choice, uint64(after))))...))
				ends[m.now.last]++
			}
		}
	}
	if len(ends) != 2 || ends[1] < 100 || ends[2] < 12*3+12 {
		t.Errorf("how often a time was the last one: %v", ends)
	}
}

// P24.2: what goes on behind crashes is answered as by an engine that came to the same head without any.
func TestAsWithoutCrashes(t *testing.T) {
	for seed := range uint64(6) {
		r := rand.New(rand.NewPCG(seed, 47))
		m := newModel(t, someConf(500, 200, 3))
		other := open(t, m.conf)
		began := 0 // so many transactions the other one had
		follow := func(s api.Step) {
			t.Helper()
			last := m.now.last
			if m.do(t, s); m.now.last > last {
				began++
				done(t, other, began, m.now.last, m.now.by...)
			}
		}
		for range 6 {
			for range 300 {
				follow(m.wild(r, 10))
			}
			follow(plan())
			follow(crash(m.someKeeps(r)...))
			more := m.begun - began
			began += m.asBoth(t, r, other, more)
		}
	}
}

// asBoth does the same steps with both engines, whose transactions' numbers alone differ. It tells how many began.
func (m *model) asBoth(t *testing.T, r *rand.Rand, other *engine.Engine, more int) int {
	t.Helper()
	begun := m.begun
	for range 150 {
		s := m.quiet(r, 10)
		got := m.do(t, s)
		if s.Kind == api.XSweep {
			continue // where more was written and lost, more or less may have been swept
		}
		if s.Kind == api.XBegin && got.Err == api.OK {
			got.N -= int64(more)
		}
		s.N = max(s.N, more) - more
		want(t, other, s, got)
	}
	for _, n := range slices.Sorted(maps.Keys(m.live)) {
		m.do(t, giveUp(n))
		want(t, other, giveUp(n-more), api.Echo{})
	}
	return m.begun - begun
}

// toldBy is the head that an engine tells, which has to be that of a right graph.
func toldBy(t *testing.T, e *engine.Engine) state {
	t.Helper()
	var ws []api.Write
	n := e.Net()
	for _, id := range n.Verts {
		ws = append(ws, addV(id))
	}
	for _, x := range n.Edges {
		ws = append(ws, addE(x.Id, x.U, x.V, x.W))
	}
	for _, p := range e.Props() {
		ws = append(ws, prop(p.Of, p.Name, p.Val))
	}
	out := state{last: e.Last(), head: made(t, ws...)}
	is(t, e, out.last, out.head)
	return out
}

// goesOn holds an engine that was loaded with something against a model, as it goes on.
func goesOn(t *testing.T, e *engine.Engine, conf api.Conf, r *rand.Rand) {
	t.Helper()
	m := &model{e: e, conf: conf, sectors: len(e.Data()) / api.Sector, ends: map[api.Errno]int{}}
	m.restart(toldBy(t, e))
	for range 120 {
		m.do(t, m.wild(r, 6))
	}
	m.do(t, plan())
	m.do(t, crash(m.someKeeps(r)...))
}

// mangle turns something on a disk: any bit, a sector for another one, or bytes in a sector that gets its sum again.
func mangle(r *rand.Rand, data []byte) {
	sector := func() []byte { return data[r.IntN(len(data)/api.Sector)*api.Sector:][:api.Sector] }
	b := sector()
	switch r.IntN(5) {
	case 0:
		b[r.IntN(api.Sector)] ^= 1 << r.IntN(8)
	case 1:
		copy(b, sector())
	case 2:
		clear(b)
	case 3, 4:
		for range 1 + r.IntN(3) {
			b[4+r.IntN(508)] = []byte{0, 1, byte(r.IntN(256))}[r.IntN(3)]
		}
		copy(b, crc.Seal(b[4:]))
	}
}

// P24.3: over the bytes of an engine's disk, of which some were turned, Load ends with an error or an engine that goes on.
func TestMangledBytes(t *testing.T) {
	ends := map[api.Errno]int{}
	for seed := range uint64(600) {
		r := rand.New(rand.NewPCG(seed, 48))
		m := newModel(t, someConf(12+14, 12, 1+r.IntN(3)))
		for range r.IntN(150) {
			m.do(t, m.quiet(r, 6))
		}
		if r.IntN(2) == 0 {
			m.do(t, step(api.XCheck))
		}
		data := m.e.Data()
		for range 1 + r.IntN(3) {
			mangle(r, data)
		}
		if r.IntN(10) == 0 {
			data = data[:r.IntN(len(data))]
		}
		e, err := engine.Load(data, m.conf)
		ends[err]++
		switch err {
		case api.OK:
			goesOn(t, e, m.conf, r)
		case api.ErrCorrupt, api.ErrArg:
			if e != nil {
				t.Fatalf("Load = %v, %d", e, err)
			}
		default:
			t.Fatalf("Load = %v, %d", e, err)
		}
	}
	cameUp(t, ends, []api.Errno{api.OK, api.ErrCorrupt, api.ErrArg}, nil)
	if ends[api.OK] < 100 || ends[api.ErrCorrupt] < 100 {
		t.Errorf("Load's ends: %v", ends)
	}
}

// P24.3: over noise Load ends, whatever the configuration.
func TestNoise(t *testing.T) {
	for seed := range uint64(300) {
		r := rand.New(rand.NewPCG(seed, 49))
		data := make([]byte, r.IntN(30*api.Sector))
		for i := range data {
			data[i] = byte(r.Uint32())
		}
		switch r.IntN(4) {
		case 0:
			clear(data[:min(len(data), api.Sector)]) // a log is made
		case 1:
			clear(data[min(len(data), 3*api.Sector):])
		case 2:
			for from := 0; from+api.Sector <= len(data); from += api.Sector {
				copy(data[from:], crc.Seal(data[from+4:from+api.Sector]))
			}
		}
		conf := api.Conf{Sectors: r.IntN(9) - 4, Log: r.IntN(12) - 2, Frames: r.IntN(9) - 4, Seeds: []int{r.IntN(3)}}
		e, err := engine.Load(data, conf)
		if (e == nil) != (err != api.OK) || err != api.OK && err != api.ErrArg && err != api.ErrCorrupt && err != api.ErrDiskFull && err != api.ErrLogFull {
			t.Fatalf("Load of noise = %v, %d", e, err)
		}
		if err == api.OK {
			goesOn(t, e, conf, r)
		}
	}
}

// P24.3: an empty disk is one too.
func TestEmptyBytes(t *testing.T) {
	r := rand.New(rand.NewPCG(1, 50))
	for _, count := range []int{30*api.Sector - 511, 30 * api.Sector, 40 * api.Sector} {
		conf := someConf(0, 12, 2)
		e := load(t, make([]byte, count), conf)
		is(t, e, 0, graph.New())
		goesOn(t, e, conf, r)
	}
}
