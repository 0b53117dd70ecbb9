package recov_test

import (
	"bytes"
	"math/rand/v2"
	"slices"
	"testing"

	"skein/api"
	"skein/disk"
	"skein/page"
	"skein/recov"
)

// P11.1, P11.2: any calls in any order, steps that are refused, crashes of which any pending sectors persist, Open's steps too.
func TestCallsInAnyOrder(t *testing.T) {
	refusals, checks := 0, 0
	for seed := range uint64(150) {
		r := rand.New(rand.NewPCG(seed, 11))
		conf := api.Conf{Log: 1 + r.IntN(9), Frames: 1 + r.IntN(5)}
		m := newModel(t, disk.New(conf.Log+1+r.IntN(7)), conf)
		for range 6 {
			if r.IntN(4) > 0 {
				m.fails, m.failing = m.d.Steps()+1+r.IntN(80), 1+r.IntN(3)
				m.d.Plan(api.Fate{Step: m.fails, Kind: m.failing})
			}
			for range 120 {
				m.call(t, r)
			}
			m.anew(t, r, r.IntN(4))
		}
		refusals += m.refusals
		checks += m.checks
	}
	if refusals == 0 || checks == 0 {
		t.Errorf("%d times the log was full, %d checkpoints of Begin", refusals, checks)
	}
}

// P11.2: a crash at each step of what is done, and at each step of Open behind it.
func TestCrashAtEachStep(t *testing.T) {
	for seed := range uint64(14) {
		for step := 5; ; step++ {
			over := false
			for kind := api.FFail; kind <= api.FBehind; kind++ {
				for try := range uint64(3) {
					r := rand.New(rand.NewPCG(seed, 12))
					conf := api.Conf{Log: 8 + int(seed%3), Frames: 1 + int(seed%4)}
					m := newModel(t, disk.New(conf.Log+5), conf)
					m.fails, m.failing = step, kind
					m.d.Plan(api.Fate{Step: step, Kind: kind})
					for i := 0; i < 60 && !m.dead; i++ {
						m.call(t, r)
					}
					over = !m.dead
					m.anew(t, rand.New(rand.NewPCG(seed, try)), 12)
				}
			}
			if over {
				break
			}
		}
	}
}

// P11.2: a sync that was refused leaves sectors pending on a disk that goes on; Open builds on none of them but what is safe.
func TestOpenBehindARefusedSync(t *testing.T) {
	// What is done, behind a Write; it tells whether that is committed, and whether it may be.
	for name, do := range map[string]func(s *recov.Store) (bool, bool){
		"Commit":     func(s *recov.Store) (bool, bool) { return s.Commit() == api.OK, true },
		"Checkpoint": func(s *recov.Store) (bool, bool) { e := s.Commit(); s.Checkpoint(); return e == api.OK, true },
		"Read":       func(s *recov.Store) (bool, bool) { s.Read(3); return false, false },
	} {
		for refused := range 6 {
			for after := range 12 { // of Open's steps
				for keeps := range 1 << 4 {
					d, s := fresh(t, 24, 20, 1)
					want(t, "Begin", s.Begin(), api.OK)
					want(t, "Write", s.Write(0, some(1)), api.OK)
					refuse(d, refused, api.FFail)
					is, may := do(s)
					refuse(d, after, api.FBefore)
					recov.Open(d, api.Conf{Log: 20, Frames: 1})
					d.Plan()
					d.On(chosen(d.Loose(), keeps)...)
					got := content(read(t, open(t, d, 20, 1), 0))
					if !(got == empty && !is || got == content(some(1)) && may) {
						t.Fatalf("%s: step %d refused, then step %d of Open, kept %d: another page", name, refused+1, after+1, keeps)
					}
				}
			}
		}
	}
}

// chosen are those of the pending sectors whose bit is set.
func chosen(loose []int, bits int) []int {
	var out []int
	for i, n := range loose {
		if bits>>min(i, 3)&1 == 1 {
			out = append(out, n)
		}
	}
	return out
}

// P11.3: opening twice is opening once, also if the first is cut off anywhere; a page's LSN is no other either.
func TestOpenTwice(t *testing.T) {
	for seed := range uint64(60) {
		r := rand.New(rand.NewPCG(seed, 13))
		conf := api.Conf{Log: 6 + r.IntN(9), Frames: 1 + r.IntN(3)}
		m := newModel(t, disk.New(conf.Log+6), conf)
		for range 20 + r.IntN(60) {
			m.call(t, r)
		}
		m.d.On(keep(r, m.d.Loose())...)
		all := m.d.All()
		once := disk.Load(all)
		told := pages(t, open(t, once, conf.Log, 2))
		if again := pages(t, open(t, once, conf.Log, 1)); !slices.Equal(again, told) {
			t.Fatal("opening again tells other pages")
		}
		if behind := disk.Load(once.All()); !slices.Equal(pages(t, open(t, behind, conf.Log, 1)), told) {
			t.Fatal("another disk of the same bytes tells other pages")
		}
		for after := 0; ; after++ {
			d := disk.Load(all)
			refuse(d, after, 2+after%2)
			_, e := recov.Open(d, conf)
			d.Plan()
			d.On(keep(r, d.Loose())...)
			if !slices.Equal(pages(t, open(t, d, conf.Log, 2)), told) {
				t.Fatalf("cut off at step %d, and opened again: other pages", after+1)
			}
			if e == api.OK {
				break
			}
		}
	}
}

// pages are all pages' bytes, their LSNs too.
func pages(t *testing.T, s *recov.Store) []string {
	t.Helper()
	var out []string
	for n := range s.Pages() {
		out = append(out, string(read(t, s, n).Bytes()))
	}
	return out
}

// script does the same calls each time, and tells their answers.
func script(t *testing.T, d *disk.Disk, s *recov.Store, seed uint64) []any {
	t.Helper()
	r := rand.New(rand.NewPCG(seed, 14))
	var out []any
	for range 300 {
		n, x := r.IntN(s.Pages()+1), r.IntN(80)
		switch r.IntN(8) {
		case 0, 1:
			g, e := s.Read(n)
			if out = append(out, e); e == api.OK {
				out = append(out, string(g.Bytes()))
			}
		case 2, 3, 4:
			out = append(out, s.Write(n, some(x)))
		case 5:
			out = append(out, s.Begin())
		case 6:
			out = append(out, s.Commit())
		case 7:
			out = append(out, s.Abort())
		}
		out = append(out, s.Active(), s.Dead())
	}
	return out
}

// P11.1, P2: how many frames there are changes nothing that is told, not even an LSN; nor what chance says.
func TestFramesChangeNothing(t *testing.T) {
	for seed := range uint64(20) {
		var told []any
		for _, frames := range []int{1, 2, 3, 5, api.MaxFrames} {
			conf := api.Conf{Log: 9, Frames: frames, Seeds: []int{frames, 7}, Sectors: frames}
			d := disk.New(20)
			s, e := recov.Open(d, conf)
			want(t, "Open", e, api.OK)
			got := script(t, d, s, seed)
			if told != nil && !slices.Equal(got, told) {
				t.Fatalf("%d frames: other answers", frames)
			}
			told = got
			if again := open(t, disk.New(20), 9, frames); !slices.Equal(script(t, nil, again, seed), told) {
				t.Fatal("the same calls are answered otherwise")
			}
		}
	}
}

// P11.1: checkpoints change nothing but LSNs.
func TestCheckpointsChangeNothing(t *testing.T) {
	for seed := range uint64(30) {
		conf := api.Conf{Log: 100, Frames: 1 + int(seed%4)}
		a, b := newModel(t, disk.New(107), conf), newModel(t, disk.New(107), conf)
		r, same := rand.New(rand.NewPCG(seed, 15)), rand.New(rand.NewPCG(seed, 15))
		for range 200 {
			a.call(t, r)
			b.call(t, same)
			if !b.active {
				b.checkpoint(t)
			}
			if !slices.Equal(a.now, b.now) {
				t.Fatal("a checkpoint has changed something")
			}
		}
	}
}

// mangle turns something on a disk: any bit, a sector for another one, or bytes in a sector that gets its sum again.
func mangle(r *rand.Rand, all []byte) {
	sectors := len(all) / api.Sector
	at := func(i int) []byte { return all[i*api.Sector:][:api.Sector] }
	b := at(r.IntN(sectors))
	switch r.IntN(6) {
	case 0:
		b[r.IntN(api.Sector)] ^= 1 << r.IntN(8)
	case 1:
		copy(b, at(r.IntN(sectors)))
	case 2:
		clear(b)
	case 3:
		b = at(r.IntN(min(4, sectors))) // the log's
		b[12+r.IntN(60)] ^= 1 << r.IntN(8)
		copy(b, sealed(b))
	case 4:
		b[4+r.IntN(16)] ^= 1 << r.IntN(8)
		copy(b, sealed(b))
	case 5:
		b[14+r.IntN(498)] = byte(r.IntN(5))
		copy(b, sealed(b))
	}
}

// P11.4: over any bytes Open ends, with an error, or with a store that goes on as it should.
func TestOpenOverAnyBytes(t *testing.T) {
	ends := map[api.Errno]int{}
	for seed := range uint64(1500) {
		r := rand.New(rand.NewPCG(seed, 16))
		conf := api.Conf{Log: 6, Frames: 1 + r.IntN(3)}
		m := newModel(t, disk.New(conf.Log+5), conf)
		for range r.IntN(40) {
			m.call(t, r)
		}
		all := m.d.All()
		for range 1 + r.IntN(3) {
			mangle(r, all)
		}
		d := disk.Load(all)
		_, e := recov.Open(d, conf)
		ends[e]++
		if e != api.OK {
			want(t, "Open", e, api.ErrCorrupt)
			continue
		}
		m = newModel(t, d, conf)
		for range 2 {
			for range 30 {
				m.call(t, r)
				m.wake(t)
			}
			m.anew(t, r, r.IntN(3))
		}
	}
	if ends[api.OK] < 100 || ends[api.ErrCorrupt] < 100 {
		t.Errorf("Open's ends: %v", ends)
	}
	for seed := range uint64(300) { // noise alone
		r := rand.New(rand.NewPCG(seed, 17))
		all := make([]byte, r.IntN(9*api.Sector))
		for i := range all {
			all[i] = byte(r.Uint32())
		}
		if s, e := recov.Open(disk.Load(all), api.Conf{Log: 1}); s != nil || e != api.ErrCorrupt && e != api.ErrArg {
			t.Fatalf("Open of noise = %v, %d", s, e)
		}
	}
}

// P11.1, P11.2: the greatest disk, with the least log and the greatest.
func TestGreatestDisk(t *testing.T) {
	for _, log := range []int{1, 40, api.MaxSectors - 2} {
		d, s := fresh(t, api.MaxSectors, log, api.MaxFrames)
		count := s.Pages()
		for n := range count {
			unit(t, s, s.Commit, n, page.New(1+n%200, uint32(n)))
		}
		want(t, "Begin", s.Begin(), api.OK)
		n := 0
		for ; s.Write(n%count, page.New(2+n%200, uint32(n*7))) == api.OK; n++ {
			if n > 20000 {
				break
			}
		}
		d.On()
		s = open(t, d, log, 1)
		for n := range count {
			has(t, s, n, content(page.New(1+n%200, uint32(n))))
		}
	}
}

// spoil changes all of a page.
func spoil(g *page.Page) {
	for i := range g.Len() {
		item, _ := g.Item(i)
		for k := range item {
			item[k] ^= 0xff
		}
		g.Replace(i, item)
	}
	g.Remove(0)
	g.Insert(0, []byte("spoilt"))
	g.SetExtra(12345)
	g.SetLSN(1 << 50)
}

// P11.5
func TestArgumentsAndAnswersAreTheirOwners(t *testing.T) {
	d, s := fresh(t, 26, 20, 2)
	seeds := []int{3, 4}
	s, e := recov.Open(d, api.Conf{Log: 20, Frames: 2, Seeds: seeds})
	if e != api.OK || !slices.Equal(seeds, []int{3, 4}) {
		t.Fatalf("Open = %d, %v", e, seeds)
	}
	want(t, "Begin", s.Begin(), api.OK)
	for _, x := range []int{3, 7, 11, 4} {
		g := some(x)
		g.SetLSN(99)
		before := g.Bytes()
		want(t, "Write", s.Write(1, g), api.OK)
		if !bytes.Equal(g.Bytes(), before) {
			t.Error("Write has changed its argument")
		}
		spoil(g)
		has(t, s, 1, content(some(x)))
		one, other := read(t, s, 1), read(t, s, 1)
		spoil(one)
		if content(other) != content(some(x)) {
			t.Error("two answers share memory")
		}
		spoil(other)
		has(t, s, 1, content(some(x)))
		spoil(read(t, s, 2))
		has(t, s, 2, empty)
	}
	old := read(t, s, 1)
	want(t, "Write", s.Write(1, some(15)), api.OK)
	if content(old) != content(some(4)) {
		t.Error("an answer has changed behind the call")
	}
	want(t, "Commit", s.Commit(), api.OK)
	d.On()
	s = open(t, d, 20, 2)
	has(t, s, 1, content(some(15)))
	has(t, s, 2, empty)
}
