package store_test

import (
	"fmt"
	"math"
	"math/rand/v2"
	"slices"
	"strings"
	"testing"

	"skein/api"
	"skein/crc"
	"skein/disk"
	"skein/store"
)

// life does the same calls each time, until a step is refused; false if none is.
func (m *model) life(t *testing.T, value string) bool {
	t.Helper()
	from := m.now.last
	for i := range int64(4) {
		for _, call := range []func(){
			func() { m.apply(t, from+4*i+1, row("a", value), row("b", value+"x"), goes("c")) },
			func() { m.apply(t, from+4*i+2, goes("a"), row("c", ""), row(fmt.Sprint("d", i), value)) },
			func() { m.versions(t) },
			func() { m.apply(t, from+4*i+4) },
			func() { m.sweep(t, from+4*i-2) },
			func() { m.check(t, "Check", m.s.Check(), api.OK) },
			func() { m.sweep(t, from+4*i+3) },
			func() { m.scan(t, "", "", math.MaxInt64) },
		} {
			if call(); m.dead {
				isDead(t, m.s, m.now.last)
				return true
			}
		}
	}
	return false
}

// P13.3: each step of a life is refused in each way, then each of those of opening, and any pending sectors persist.
func TestCrashAtEachStep(t *testing.T) {
	for kind := api.FFail; kind <= api.FBehind; kind++ {
		for step := 0; ; step++ {
			r := rand.New(rand.NewPCG(uint64(step), uint64(kind)))
			m := newModel(t, 60+12, api.Conf{Log: 60, Frames: 1 + step%3})
			m.refuse(step, kind)
			over := !m.life(t, strings.Repeat("v", 60))
			m.anew(t, r, 12)
			if m.life(t, "next") {
				t.Fatal("a step was refused")
			}
			m.same(t)
			if over {
				break
			}
		}
	}
}

// P13.3: the first opening, too, is cut off anywhere.
func TestCrashWhileItIsMade(t *testing.T) {
	for step := range 12 {
		for kind := api.FFail; kind <= api.FBehind; kind++ {
			for keeps := range 8 {
				d, conf := disk.New(40), api.Conf{Log: 20, Frames: 2}
				d.Plan(api.Fate{Step: step + 1, Kind: kind})
				if s, e := store.Open(d, conf); (e != api.OK) != (s == nil) || d.Steps() > step && e != refusal(kind) {
					t.Fatalf("Open = %v, %d", s, e)
				}
				d.Plan()
				loose := d.Loose()
				d.On(slices.DeleteFunc(loose, func(n int) bool { return keeps>>(n%3)&1 == 0 })...)
				s := open(t, d, conf)
				has(t, s, 0)
				if s.Last() != -1 {
					t.Fatalf("Last = %d", s.Last())
				}
			}
		}
	}
}

// P13.2: whatever a sweep has taken away when it is cut off, all is as it was from its time on.
func TestSweepCutOff(t *testing.T) {
	conf := api.Conf{Log: 60, Frames: 2}
	d, s := fresh(t, 60+20, conf.Log, conf.Frames)
	for time := range int64(12) {
		apply(t, s, 2*time, row("a", fmt.Sprint(time)), goes(fmt.Sprint("b", time%3)), row(fmt.Sprint("b", (time+1)%3), strings.Repeat("x", 50)))
	}
	d.On(d.Loose()...)
	all, before := d.Safe(), tableOf(t, d, conf)
	for _, h := range []int64{0, 5, 12, 21, 22, 50} {
		cuts := 0
		for step := 0; ; step++ {
			cut := disk.Load(all)
			s := open(t, cut, conf)
			kind := api.FFail + step%3
			cut.Plan(api.Fate{Step: cut.Steps() + 1 + step, Kind: kind})
			n, e := s.Sweep(h)
			if e == api.OK {
				break
			}
			cuts++
			want(t, "Sweep", e, refusal(kind))
			if n != 0 {
				t.Fatalf("Sweep = %d, %d", n, e)
			}
			cut.Plan()
			loose := cut.Loose()
			cut.On(loose[step%(len(loose)+1):]...)
			s = open(t, cut, conf)
			for time := h; time < 26; time++ {
				scans(t, s, "", "", time, before.scan("", "", time))
			}
			if got := tableOf(t, cut, conf); !before.partly(h, got) {
				t.Fatalf("Sweep(%d), cut off at step %d, has left %q", h, step, got.pairs())
			}
			n, e = s.Sweep(h)
			if e != api.OK || n > before.count() || tableOf(t, cut, conf).pairs() != before.swept(h).pairs() {
				t.Fatalf("Sweep(%d) once more = %d, %d", h, n, e)
			}
		}
		if cuts == 0 && h > 2 {
			t.Errorf("Sweep(%d) was never cut off", h)
		}
	}
}

// crowd is an Apply for which a small disk has no room, of which a step may be refused; and how many steps it makes.
func crowd(t *testing.T, conf api.Conf, refused int) (*disk.Disk, *store.Store, api.Errno, int) {
	t.Helper()
	d, s := fresh(t, conf.Log+5, conf.Log, conf.Frames)
	apply(t, s, 1, row("a", "1"))
	var rows []api.Row
	for i := range 40 {
		rows = append(rows, row(fmt.Sprintf("%030d", i), strings.Repeat("v", 99)))
	}
	before := d.Steps()
	d.Plan(api.Fate{Step: before + refused, Kind: api.FFail})
	e := s.Apply(2, rows...)
	d.Plan()
	return d, s, e, d.Steps() - before
}

// An Apply that is to be given up, while the disk refuses a step of that: the store is dead, and nothing was applied.
func TestRefusedWhileGivenUp(t *testing.T) {
	conf := api.Conf{Log: 300, Frames: 1}
	_, _, e, steps := crowd(t, conf, 0)
	want(t, "Apply", e, api.ErrDiskFull)
	for step := 1; step < steps+3; step++ {
		d, s, e, _ := crowd(t, conf, step)
		if s.Dead() != (step <= steps) {
			t.Fatalf("step %d of %d refused: Dead %t", step, steps, s.Dead())
		}
		if s.Dead() {
			want(t, "Apply", e, api.ErrDisk)
			isDead(t, s, 1)
			d.On()
			s = open(t, d, conf)
		} else {
			want(t, "Apply", e, api.ErrDiskFull)
		}
		scans(t, s, "", "", 9, "a=1 ")
		if s.Last() != 1 {
			t.Fatalf("Last = %d", s.Last())
		}
	}
}

// A log that has no run left: what would need one more is refused, nothing was applied, and all else goes on.
func TestNoRunLeft(t *testing.T) {
	run := uint64(1)<<38 - 1 // the last but one
	conf := api.Conf{Log: 12, Frames: 2}
	d, s := fresh(t, conf.Log+10, conf.Log, conf.Frames)
	apply(t, s, 1, row("a", "1"))
	want(t, "Check", s.Check(), api.OK)
	data := d.Safe()
	first := make([]byte, api.Sector-4)
	for i := range 8 {
		first[i] = byte(run >> (8 * i))
	}
	copy(data, crc.Seal(first))
	d = disk.Load(data)
	s = open(t, d, conf)
	time := int64(2)
	for s.Apply(time, row("a", fmt.Sprint(time))) == api.OK {
		time++
	}
	want(t, "Apply", s.Apply(time, row("a", "more")), api.ErrLogFull)
	want(t, "Check", s.Check(), api.ErrLogFull)
	if n, e := s.Sweep(time); n != 0 || e != api.ErrLogFull {
		t.Errorf("Sweep = %d, %d", n, e)
	}
	if s.Dead() || s.Last() != time-1 || time < 4 {
		t.Errorf("Dead %t, Last %d, want %d", s.Dead(), s.Last(), time-1)
	}
	is(t, s, "a", time, fmt.Sprint(time-1))
	has(t, s, int(time)-1)
	if s, e := store.Open(d, conf); s != nil || e != api.ErrCorrupt {
		t.Errorf("Open without a run = %v, %d", s, e)
	}
}
