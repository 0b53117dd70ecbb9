package graphdb_test

import (
	"math/rand/v2"
	"slices"
	"strings"
	"testing"

	"skein/api"
	"skein/crc"
	"skein/disk"
	"skein/graph"
	"skein/graphdb"
	"skein/store"
	"skein/view"
)

// life does the same calls each time, until a step is refused; false if none is.
func (m *model) life(t *testing.T, value string) bool {
	t.Helper()
	first := m.begun + 1
	for i := range 4 {
		n, id := first+3*i, 10*(i+1)
		for _, call := range []func(){
			func() { m.begin(t) },
			func() { m.begin(t) },
			func() { m.write(t, n, addV(id)) },
			func() { m.write(t, n, prop(vertex(id), "a", text(value))) },
			func() { m.write(t, n, addE(id, id, 10, int64(i))) },
			func() { m.write(t, n+1, addV(id)) },
			func() { m.write(t, n+1, addV(id+1)) },
			func() { m.commit(t, n) },
			func() { m.commit(t, n+1) },
			func() { m.check(t, "Check", m.b.Check(), api.OK) },
			func() { m.begin(t) },
			func() { m.write(t, n+2, delE(id)) },
			func() { m.write(t, n+2, prop(vertex(10), "b", text(value))) },
			func() { m.commit(t, n+2) },
			func() { m.sweep(t) },
		} {
			call()
			m.same(t)
			if m.dead {
				return true
			}
		}
	}
	return false
}

// P23.3: each step of a life is refused in each way, then each of those of opening, and any pending sectors persist.
func TestCrashAtEachStep(t *testing.T) {
	for kind := api.FFail; kind <= api.FBehind; kind++ {
		for step := 0; ; step++ {
			r := rand.New(rand.NewPCG(uint64(step), uint64(kind)))
			m := newModel(t, 40+200, api.Conf{Log: 40, Frames: 1 + step%3})
			m.refuse(step, kind)
			over := !m.life(t, strings.Repeat("v", 50))
			m.anew(t, r, 14)
			if m.life(t, "next") {
				t.Fatal("a step was refused")
			}
			m.anew(t, r, 0)
			if over {
				break
			}
		}
	}
}

// P23.3: whichever of the pending sectors persist, a commit that was cut off is there whole, or not at all.
func TestEachChoiceOfSectors(t *testing.T) {
	const most = 5 // if there are more, they persist in so many lots
	ends := map[int64]int{}
	for kind := api.FFail; kind <= api.FBehind; kind++ {
		for step, over := 0, false; !over; step++ {
			loose := 0
			for choice := 0; choice < 1<<min(loose, most) && !over; choice++ {
				m := cutOff(t, step, kind)
				over = !m.dead
				loose = len(m.d.Loose())
				var keeps []int
				for i, n := range m.d.Loose() {
					if choice>>(i%most)&1 == 1 {
						keeps = append(keeps, n)
					}
				}
				m.d.Plan()
				m.d.On(keeps...)
				m.b = open(t, m.d, m.conf)
				m.opened(t)
				ends[m.now.last]++
			}
		}
	}
	if len(ends) != 2 || ends[1] < 1000 || ends[2] < 3+4 {
		t.Errorf("how often a time was the last one: %v", ends)
	}
}

// cutOff is a database whose second commit meets a refusal at one of its steps, unless it has fewer.
func cutOff(t *testing.T, step, kind int) *model {
	t.Helper()
	m := newModel(t, 40+200, api.Conf{Log: 40, Frames: 2})
	m.begin(t)
	m.write(t, 1, addV(1))
	m.write(t, 1, prop(vertex(1), "a", text(strings.Repeat("x", 60))))
	m.commit(t, 1)
	m.begin(t)
	for id := 2; id < 9; id++ {
		m.write(t, 2, addV(id))
		m.write(t, 2, prop(vertex(id), "a", text(strings.Repeat("y", 60))))
	}
	m.refuse(step, kind)
	m.commit(t, 2)
	return m
}

// small is what databases are made with that are to have few steps.
var small = api.Conf{Log: 20, Frames: 2}

// P23.3: the first opening, too, is cut off anywhere.
func TestCrashWhileItIsMade(t *testing.T) {
	for step := range 12 {
		for kind := api.FFail; kind <= api.FBehind; kind++ {
			for keeps := range 8 {
				d := disk.New(40)
				d.Plan(api.Fate{Step: step + 1, Kind: kind})
				if b, e := graphdb.Open(d, small); (e != api.OK) != (b == nil) || d.Steps() > step && e != refusal(kind) {
					t.Fatalf("Open = %v, %d", b, e)
				}
				d.Plan()
				loose := d.Loose()
				d.On(slices.DeleteFunc(loose, func(n int) bool { return keeps>>(n%3)&1 == 0 })...)
				b := open(t, d, small)
				is(t, b, 0, graph.New())
				live(t, b)
			}
		}
	}
}

// A log that has no run left: what would need one more is refused, nothing is changed, and all else goes on.
func TestNoRunLeft(t *testing.T) {
	run := uint64(1)<<38 - 1 // the last but one
	d := disk.New(100)
	b := open(t, d, small)
	done(t, b, addV(1))
	want(t, "Check", b.Check(), api.OK)
	data := d.Safe()
	first := make([]byte, api.Sector-4)
	for i := range 8 {
		first[i] = byte(run >> (8 * i))
	}
	copy(data, crc.Seal(first))
	d = disk.Load(data)
	b = open(t, d, small)
	g := made(t, addV(1))
	for id := 2; ; id++ {
		n, e := b.Begin()
		want(t, "Begin", e, api.OK)
		write(t, b, n, addV(id))
		time, e := b.Commit(n)
		if e != api.OK {
			want(t, "Commit", e, api.ErrLogFull)
			break
		}
		if time != int64(id) || id > 1000 {
			t.Fatalf("Commit = %d, %d", time, e)
		}
		g.Do(addV(id))
	}
	last := b.Last()
	if last < 3 {
		t.Fatalf("Last = %d", last)
	}
	for range 2 {
		want(t, "Check", b.Check(), api.ErrLogFull)
		if n, e := b.Sweep(); n != 0 || e != api.OK && e != api.ErrLogFull {
			t.Fatalf("Sweep = %d, %d", n, e)
		}
		n, _ := b.Begin()
		sees(t, b, n, g)
		write(t, b, n, addV(9999))
		refused(t, b, n, api.ErrLogFull)
		n, _ = b.Begin()
		commit(t, b, n, last)
		is(t, b, last, g)
	}
	if b, e := graphdb.Open(d, small); b != nil || e != api.ErrCorrupt {
		t.Errorf("Open without a run = %v, %d", b, e)
	}
}

// told is the head that a database tells, which has to be a right graph, and the one that lies in the table.
func told(t *testing.T, d *disk.Disk, b *graphdb.DB, conf api.Conf) state {
	t.Helper()
	var ws []api.Write
	n := b.Net()
	for _, id := range n.Verts {
		ws = append(ws, addV(id))
	}
	for _, x := range n.Edges {
		ws = append(ws, addE(x.Id, x.U, x.V, x.W))
	}
	for _, p := range b.Props() {
		ws = append(ws, prop(p.Of, p.Name, p.Val))
	}
	out := state{b.Last(), made(t, ws...)}
	is(t, b, out.last, out.head)
	s, e := store.Open(disk.Load(d.All()), conf)
	want(t, "store.Open", e, api.OK)
	g, e := view.Load(s, s.Last())
	want(t, "Load", e, api.OK)
	is(t, b, max(s.Last(), 0), g)
	return out
}

// goesOn holds a database that was opened over something against a model, as it goes on.
func goesOn(t *testing.T, d *disk.Disk, b *graphdb.DB, conf api.Conf, r *rand.Rand) {
	t.Helper()
	m := &model{d: d, b: b, conf: conf, ends: map[api.Errno]int{}}
	m.restart(told(t, d, b, conf))
	for range 2 {
		for range 40 {
			m.call(t, r, 6)
		}
		m.anew(t, r, r.IntN(3))
	}
}

// P23.4: over any bytes of a disk Open ends, and what it opens goes on.
func TestAnyBytes(t *testing.T) {
	ends := map[api.Errno]int{}
	for seed := range uint64(400) {
		r := rand.New(rand.NewPCG(seed, 44))
		m := newModel(t, 12+14, api.Conf{Log: 12, Frames: 1 + r.IntN(3)})
		for range r.IntN(120) {
			m.call(t, r, 6)
		}
		if r.IntN(2) == 0 {
			want(t, "Check", m.b.Check(), api.OK)
		}
		data := m.d.All()
		for range 1 + r.IntN(3) {
			mangle(r, data)
		}
		d := disk.Load(data)
		b, e := graphdb.Open(d, m.conf)
		ends[e]++
		if e != api.OK {
			want(t, "Open", e, api.ErrCorrupt)
			continue
		}
		goesOn(t, d, b, m.conf, r)
	}
	if ends[api.OK] < 80 || ends[api.ErrCorrupt] < 80 {
		t.Errorf("Open's ends: %v", ends)
	}
	for seed := range uint64(100) { // noise alone
		r := rand.New(rand.NewPCG(seed, 45))
		data := make([]byte, 1+r.IntN(20*api.Sector))
		for i := range data {
			data[i] = byte(r.Uint32())
		}
		if b, e := graphdb.Open(disk.Load(data), api.Conf{Log: 1}); b != nil || e != api.ErrCorrupt && e != api.ErrArg {
			t.Fatalf("Open of noise = %v, %d", b, e)
		}
	}
}

// mangle turns something on a disk: any bit, a sector for another one, or bytes in a sector that gets its sum again.
func mangle(r *rand.Rand, data []byte) {
	sector := func() []byte { return data[r.IntN(len(data)/api.Sector)*api.Sector:][:api.Sector] }
	b := sector()
	switch r.IntN(5) {
	case 0:
		b[r.IntN(api.Sector)] ^= 1 << r.IntN(8)
	case 1:
		copy(b, sector())
	case 2:
		clear(b)
	case 3, 4:
		for range 1 + r.IntN(3) {
			b[14+r.IntN(498)] = []byte{0, 1, byte(r.IntN(256))}[r.IntN(3)]
		}
		copy(b, crc.Seal(b[4:]))
	}
}

// P23.4: right tables of rows that are none of a graph, or not quite: what is opened has a head, and goes on.
func TestMangledRows(t *testing.T) {
	ends := map[api.Errno]int{}
	for seed := range uint64(400) {
		r := rand.New(rand.NewPCG(seed, 46))
		d := disk.New(200)
		s, e := store.Open(d, usual)
		want(t, "store.Open", e, api.OK)
		g := graph.New()
		for range 1 + r.IntN(4) {
			v := view.New(g)
			for range 12 {
				v.Do(someWrite(r, 4))
			}
			rows := v.Rows()
			if len(rows) > 0 && r.IntN(3) == 0 {
				x := &rows[r.IntN(len(rows))]
				switch {
				case r.IntN(2) == 0:
					x.Key[r.IntN(len(x.Key))] += byte(1 + r.IntN(3))
				case len(x.Val) > 0:
					x.Val[r.IntN(len(x.Val))] ^= 1 << r.IntN(8)
				}
			}
			// Two rows of one key are refused: nothing is applied then.
			s.Apply(s.Last()+1+int64(r.IntN(3)), rows...)
			if now, e := view.Load(s, s.Last()); e == api.OK {
				g = now
			}
		}
		b, e := graphdb.Open(d, usual)
		ends[e]++
		if e != api.OK {
			want(t, "Open", e, api.ErrCorrupt)
			continue
		}
		goesOn(t, d, b, usual, r)
	}
	if ends[api.OK] < 80 || ends[api.ErrCorrupt] < 80 {
		t.Errorf("Open's ends: %v", ends)
	}
}
