package disk_test

import (
	"bytes"
	"math"
	"math/rand/v2"
	"slices"
	"testing"

	"skein/api"
	"skein/disk"
)

// sectorOf is a sector's bytes that begin with s.
func sectorOf(s string) []byte {
	return append([]byte(s), make([]byte, api.Sector-len(s))...)
}

// model is a disk told in a plainer way: everything is gone through from its beginning at each step.
type model struct {
	safe, last [][]byte
	loose      []bool
	fates      []api.Fate
	off        bool
	steps      int
}

func newModel(n int) *model {
	m := &model{loose: make([]bool, n)}
	for range n {
		m.safe = append(m.safe, make([]byte, api.Sector))
		m.last = append(m.last, make([]byte, api.Sector))
	}
	return m
}

func (m *model) fate() int {
	for _, f := range m.fates {
		if f.Step == m.steps && slices.Contains([]int{api.FFail, api.FBefore, api.FBehind}, f.Kind) {
			return f.Kind
		}
	}
	return 0
}

func (m *model) step(do func()) api.Errno {
	m.steps++
	kind := m.fate()
	if kind == 0 || kind == api.FBehind {
		do()
	}
	if kind == api.FBefore || kind == api.FBehind {
		m.off = true
		return api.ErrPower
	}
	if kind == api.FFail {
		return api.ErrDisk
	}
	return api.OK
}

func (m *model) write(i int, data []byte) api.Errno {
	if m.off {
		return api.ErrPower
	}
	if i < 0 || i >= len(m.last) || len(data) > api.Sector {
		return api.ErrArg
	}
	return m.step(func() { m.last[i], m.loose[i] = sectorOf(string(data)), true })
}

func (m *model) sync() api.Errno {
	if m.off {
		return api.ErrPower
	}
	return m.step(func() {
		m.safe = slices.Clone(m.last)
		m.loose = make([]bool, len(m.last))
	})
}

func (m *model) on(keeps []int) {
	for i := range m.last {
		if m.loose[i] && slices.Contains(keeps, i) {
			m.safe[i] = m.last[i]
		}
	}
	m.last = slices.Clone(m.safe)
	m.loose = make([]bool, len(m.last))
	m.off = false
}

// same tells whether the disk answers what the model does, to all that changes nothing.
func same(t *testing.T, d *disk.Disk, m *model) {
	t.Helper()
	if d.Size() != len(m.last) || d.Power() == m.off || d.Steps() != m.steps {
		t.Fatalf("Size %d, Power %v, Steps %d, want %d, %v, %d", d.Size(), d.Power(), d.Steps(), len(m.last), !m.off, m.steps)
	}
	var loose []int
	for i, is := range m.loose {
		if is {
			loose = append(loose, i)
		}
	}
	if got := d.Loose(); !slices.Equal(got, loose) {
		t.Fatalf("Loose %v, want %v", got, loose)
	}
	if !bytes.Equal(d.All(), slices.Concat(m.last...)) {
		t.Fatal("All is another")
	}
	if !bytes.Equal(d.Safe(), slices.Concat(m.safe...)) {
		t.Fatal("Safe is another")
	}
	for i := -1; i <= len(m.last); i++ {
		b, e := d.Read(i)
		switch {
		case m.off:
			if len(b) != 0 || e != api.ErrPower {
				t.Fatalf("Read(%d) without power = %d bytes, %d", i, len(b), e)
			}
		case i < 0 || i == len(m.last):
			if len(b) != 0 || e != api.ErrArg {
				t.Fatalf("Read(%d) of %d sectors = %d bytes, %d", i, len(m.last), len(b), e)
			}
		case e != api.OK || !bytes.Equal(b, m.last[i]):
			t.Fatalf("Read(%d) = % x.., %d", i, b[:min(len(b), 8)], e)
		}
	}
}

// someFates is a plan of steps around where the disk is, wrong kinds and double steps among them.
func someFates(r *rand.Rand, steps int) []api.Fate {
	var fates []api.Fate
	for range r.IntN(12) {
		fates = append(fates, api.Fate{Step: steps + r.IntN(24) - 4, Kind: r.IntN(6) - 1})
	}
	return fates
}

func someKeeps(r *rand.Rand, n int) []int {
	var keeps []int
	for range r.IntN(2*n + 2) {
		keeps = append(keeps, r.IntN(n+4)-2)
	}
	return keeps
}

func someBytes(r *rand.Rand, n int) []byte {
	b := make([]byte, n)
	for i := range b {
		b[i] = byte(r.Uint32())
	}
	return b
}

// P7.1: any calls in any order, against the model.
func TestCallsInAnyOrder(t *testing.T) {
	for seed := range uint64(60) {
		r := rand.New(rand.NewPCG(seed, 7))
		n := r.IntN(6)
		d, m := disk.New(n), newModel(n)
		same(t, d, m)
		for range 250 {
			switch k := r.IntN(20); {
			case k < 11:
				i, data := r.IntN(n+2)-1, someBytes(r, r.IntN(api.Sector+2))
				if k < 7 {
					data = data[:min(len(data), r.IntN(4))]
				}
				if got, want := d.Write(i, data), m.write(i, data); got != want {
					t.Fatalf("Write(%d, %d bytes) = %d, want %d", i, len(data), got, want)
				}
			case k < 15:
				if got, want := d.Sync(), m.sync(); got != want {
					t.Fatalf("Sync = %d, want %d", got, want)
				}
			case k < 17:
				m.fates = someFates(r, m.steps)
				d.Plan(m.fates...)
			default:
				keeps := someKeeps(r, n)
				d.On(keeps...)
				m.on(keeps)
			}
			same(t, d, m)
		}
	}
}

// P7.1: sizes.
func TestNew(t *testing.T) {
	for _, x := range [][2]int{
		{0, 0}, {1, 1}, {7, 7}, {-1, 0}, {math.MinInt, 0},
		{api.MaxSectors - 1, api.MaxSectors - 1}, {api.MaxSectors, api.MaxSectors}, {api.MaxSectors + 1, api.MaxSectors}, {math.MaxInt, api.MaxSectors},
	} {
		d := disk.New(x[0])
		all := make([]byte, x[1]*api.Sector)
		if d.Size() != x[1] || !bytes.Equal(d.All(), all) || !bytes.Equal(d.Safe(), all) {
			t.Errorf("New(%d): Size %d", x[0], d.Size())
		}
		if !d.Power() || d.Steps() != 0 || len(d.Loose()) != 0 {
			t.Errorf("New(%d): Power %v, Steps %d, Loose %v", x[0], d.Power(), d.Steps(), d.Loose())
		}
	}
}

func TestLoad(t *testing.T) {
	r := rand.New(rand.NewPCG(3, 3))
	for _, x := range [][2]int{
		{0, 0}, {1, 1}, {api.Sector - 1, 1}, {api.Sector, 1}, {api.Sector + 1, 2}, {5 * api.Sector, 5},
		{api.MaxSectors*api.Sector - 1, api.MaxSectors}, {api.MaxSectors * api.Sector, api.MaxSectors}, {api.MaxSectors*api.Sector + 1, api.MaxSectors}, {api.MaxSectors*api.Sector + 3000, api.MaxSectors},
	} {
		data := someBytes(r, x[0])
		d := disk.Load(data)
		want := make([]byte, x[1]*api.Sector)
		copy(want, data)
		if d.Size() != x[1] || !bytes.Equal(d.All(), want) || !bytes.Equal(d.Safe(), want) {
			t.Errorf("Load(%d bytes): Size %d, want %d", x[0], d.Size(), x[1])
		}
		if !d.Power() || d.Steps() != 0 || len(d.Loose()) != 0 {
			t.Errorf("Load(%d bytes): Power %v, Steps %d, Loose %v", x[0], d.Power(), d.Steps(), d.Loose())
		}
		d.On()
		if !bytes.Equal(d.All(), want) {
			t.Errorf("Load(%d bytes) isn't safe", x[0])
		}
	}
	if disk.Load(nil).Size() != 0 {
		t.Error("Load(nil) has sectors")
	}
}

// P7.1: what a write refuses, and in which order.
func TestWrongArguments(t *testing.T) {
	d := disk.New(3)
	long := make([]byte, api.Sector+1)
	for _, i := range []int{-1, 3, 4, math.MaxInt, math.MinInt, 1 << 32, 1<<32 + 1} {
		if e := d.Write(i, nil); e != api.ErrArg {
			t.Errorf("Write(%d) = %d", i, e)
		}
		if b, e := d.Read(i); len(b) != 0 || e != api.ErrArg {
			t.Errorf("Read(%d) = %d bytes, %d", i, len(b), e)
		}
	}
	if e := d.Write(1, long); e != api.ErrArg {
		t.Errorf("Write of %d bytes = %d", len(long), e)
	}
	if d.Steps() != 0 || len(d.Loose()) != 0 || !bytes.Equal(d.All(), make([]byte, 3*api.Sector)) {
		t.Error("what was refused counted, or was done")
	}
	if e := d.Write(1, long[:api.Sector]); e != api.OK {
		t.Errorf("Write of %d bytes = %d", api.Sector, e)
	}
	d.Plan(api.Fate{Step: 2, Kind: api.FBefore})
	if e := d.Write(3, nil); e != api.ErrArg || !d.Power() {
		t.Errorf("a write of no sector met a fate: %d", e)
	}
	if e := d.Sync(); e != api.ErrPower || d.Power() {
		t.Errorf("Sync at FBefore = %d", e)
	}
	for _, e := range []api.Errno{d.Write(0, nil), d.Write(9, nil), d.Write(0, long), d.Sync()} {
		if e != api.ErrPower {
			t.Errorf("without power: %d", e)
		}
	}
	if _, e := d.Read(9); e != api.ErrPower {
		t.Errorf("Read(9) without power: %d", e)
	}
	if d.Steps() != 2 {
		t.Errorf("Steps %d without power", d.Steps())
	}
}

// P7.1: a shorter write leaves nothing of what was there.
func TestWriteFillsUp(t *testing.T) {
	d := disk.New(1)
	d.Write(0, bytes.Repeat([]byte{1}, api.Sector))
	d.Sync()
	d.Write(0, bytes.Repeat([]byte{2}, api.Sector))
	d.Write(0, []byte("ab"))
	if b, _ := d.Read(0); !bytes.Equal(b, sectorOf("ab")) {
		t.Errorf("Read = % x", b)
	}
	d.Write(0, nil)
	if b, _ := d.Read(0); !bytes.Equal(b, sectorOf("")) {
		t.Errorf("Read = % x", b)
	}
}

// P7.1: each fate at a write and at a sync.
func TestFates(t *testing.T) {
	for _, x := range []struct {
		kind        int
		e           api.Errno
		done, power bool
	}{
		{api.FFail, api.ErrDisk, false, true},
		{api.FBefore, api.ErrPower, false, false},
		{api.FBehind, api.ErrPower, true, false},
		{0, api.OK, true, true},
		{4, api.OK, true, true},
		{-1, api.OK, true, true},
		{math.MaxInt, api.OK, true, true},
	} {
		d := disk.New(2)
		d.Plan(api.Fate{Step: 1, Kind: x.kind})
		if e := d.Write(1, []byte("ab")); e != x.e || d.Power() != x.power || d.Steps() != 1 {
			t.Errorf("Write at %d = %d, Power %v, Steps %d", x.kind, e, d.Power(), d.Steps())
		}
		if done := bytes.Contains(d.All(), []byte("ab")); done != x.done || (len(d.Loose()) == 1) != x.done {
			t.Errorf("Write at %d: done %v, Loose %v", x.kind, done, d.Loose())
		}

		d = disk.New(2)
		d.Plan(api.Fate{Step: 2, Kind: x.kind})
		d.Write(1, []byte("ab"))
		if e := d.Sync(); e != x.e || d.Power() != x.power || d.Steps() != 2 {
			t.Errorf("Sync at %d = %d, Power %v, Steps %d", x.kind, e, d.Power(), d.Steps())
		}
		if done := bytes.Contains(d.Safe(), []byte("ab")); done != x.done || (len(d.Loose()) == 0) != x.done {
			t.Errorf("Sync at %d: done %v, Loose %v", x.kind, done, d.Loose())
		}
		if !bytes.Contains(d.All(), []byte("ab")) {
			t.Errorf("Sync at %d: what was written is gone", x.kind)
		}
	}
}

// P7.1: which fate counts.
func TestPlan(t *testing.T) {
	d := disk.New(1)
	d.Plan(api.Fate{Step: 1, Kind: 9}, api.Fate{Step: 1, Kind: api.FFail}, api.Fate{Step: 1, Kind: api.FBefore}, api.Fate{Step: 3, Kind: api.FFail})
	if e := d.Write(0, nil); e != api.ErrDisk {
		t.Errorf("the first fate of a right kind: %d", e)
	}
	d.Plan(api.Fate{Step: 2, Kind: api.FFail}, api.Fate{Step: 1, Kind: api.FFail}, api.Fate{Step: 5, Kind: api.FFail}, api.Fate{Step: 0, Kind: api.FFail}, api.Fate{Step: -1, Kind: api.FFail})
	for i, want := range []api.Errno{api.ErrDisk, api.OK, api.OK, api.ErrDisk, api.OK} {
		if e := d.Sync(); e != want {
			t.Errorf("step %d = %d, want %d: steps are counted from the beginning, a new plan takes the old one's place", i+2, e, want)
		}
	}
	d.Plan(api.Fate{Step: 7, Kind: api.FFail}, api.Fate{Step: 8, Kind: api.FBefore}, api.Fate{Step: 9, Kind: api.FFail})
	d.On()
	for i, want := range []api.Errno{api.ErrDisk, api.ErrPower, api.ErrPower} {
		if e := d.Sync(); e != want {
			t.Errorf("step %d = %d, want %d: the plan stays behind On", i+7, e, want)
		}
	}
	d.On()
	if e := d.Sync(); e != api.ErrDisk || d.Steps() != 9 {
		t.Errorf("step 9 = %d", e)
	}
	d.Plan(api.Fate{Step: 10, Kind: api.FFail})
	d.Plan()
	if e := d.Sync(); e != api.OK {
		t.Errorf("behind an empty plan: %d", e)
	}
}

// P7.1: pending is what was written since the last Sync, the same bytes too.
func TestLoose(t *testing.T) {
	d := disk.New(5)
	for _, i := range []int{4, 0, 2, 4} {
		d.Write(i, nil)
	}
	if got := d.Loose(); !slices.Equal(got, []int{0, 2, 4}) {
		t.Errorf("Loose = %v", got)
	}
	d.Sync()
	if got := d.Loose(); len(got) != 0 {
		t.Errorf("Loose behind a Sync = %v", got)
	}
	d.Write(3, nil)
	d.On(3, 1)
	if got := d.Loose(); len(got) != 0 {
		t.Errorf("Loose behind On = %v", got)
	}
}

// P7.2: behind a Sync that answered OK the sector outlasts every crash.
func TestSyncedStays(t *testing.T) {
	for kept := range 2 {
		for kind := range 4 {
			d := disk.New(2)
			d.Write(0, []byte("ab"))
			if e := d.Sync(); e != api.OK {
				t.Fatalf("Sync = %d", e)
			}
			d.Plan(api.Fate{Step: 3, Kind: kind}, api.Fate{Step: 4, Kind: kind})
			d.Write(1, []byte("cd"))
			d.Sync()
			for range 3 {
				d.On(make([]int, kept)...)
				if b, e := d.Read(0); !bytes.Equal(b, sectorOf("ab")) || e != api.OK {
					t.Errorf("kept %d, kind %d: % x, %d", kept, kind, b[:4], e)
				}
			}
		}
	}
}

// P7.3: of the pending sectors just those that are kept persist, each by itself.
func TestKeeps(t *testing.T) {
	const n = 5
	for set := range 1 << n {
		d := disk.New(n)
		for i := range n {
			d.Write(i, []byte{'a', byte(i)})
		}
		d.Sync()
		// Sector 4 isn't pending; sector 3 is written twice.
		for i := range n - 1 {
			d.Write(i, []byte{'b', byte(i)})
		}
		d.Write(3, []byte{'c', 3})
		keeps := []int{-1, n, math.MaxInt, math.MinInt}
		for i := range n {
			if set>>i&1 == 1 {
				keeps = append(keeps, i, i)
			}
		}
		d.On(keeps...)
		for i := range n {
			first := byte('a')
			if set>>i&1 == 1 && i < 4 {
				first = 'b'
				if i == 3 {
					first = 'c'
				}
			}
			if b, _ := d.Read(i); !bytes.Equal(b, sectorOf(string([]byte{first, byte(i)}))) {
				t.Errorf("keeps %v: sector %d has % x", keeps, i, b[:4])
			}
		}
		if !bytes.Equal(d.All(), d.Safe()) || len(d.Loose()) != 0 {
			t.Errorf("keeps %v: something is pending", keeps)
		}
	}
}

// P7.3: what a failed or cut-off Sync left pending may still be lost, or kept.
func TestSyncThatWasRefused(t *testing.T) {
	for _, kind := range []int{api.FFail, api.FBefore} {
		d := disk.New(2)
		d.Plan(api.Fate{Step: 3, Kind: kind})
		d.Write(0, []byte("ab"))
		d.Write(1, []byte("cd"))
		d.Sync()
		d.On(1)
		if !bytes.Equal(d.All(), slices.Concat(sectorOf(""), sectorOf("cd"))) {
			t.Errorf("kind %d", kind)
		}
	}
}

func TestExample(t *testing.T) {
	d := disk.New(2)
	d.Write(0, []byte("ab"))
	d.Sync()
	d.Write(0, []byte("cd"))
	d.Write(1, []byte("ef"))
	d.On(1)
	if !bytes.Equal(d.All(), slices.Concat(sectorOf("ab"), sectorOf("ef"))) {
		t.Errorf("All = % x", d.All())
	}
	d = disk.New(1)
	d.Write(0, []byte("ab"))
	d.Sync()
	d.Write(0, []byte("cd"))
	d.On()
	if b, _ := d.Read(0); !bytes.Equal(b, sectorOf("ab")) {
		t.Errorf("Read = % x", b)
	}
}

// spoil writes over all the memory of a list, its spare room too.
func spoil(b []byte) {
	b = b[:cap(b)]
	for i := range b {
		b[i] ^= 0xff
	}
}

// P7.4
func TestArgumentsAreTheirOwners(t *testing.T) {
	data := bytes.Repeat([]byte("ab"), api.Sector)
	whole := bytes.Clone(data)
	d := disk.Load(data)
	if !bytes.Equal(data, whole) {
		t.Error("Load has changed its argument")
	}
	spoil(data)
	if !bytes.Equal(d.All(), whole) || !bytes.Equal(d.Safe(), whole) {
		t.Error("Load has kept its argument")
	}
	some := append(make([]byte, 0, api.Sector), "cd"...)
	d.Write(0, some)
	if !bytes.Equal(some[:4], []byte("cd\x00\x00")) || len(some) != 2 {
		t.Error("Write has changed its argument")
	}
	spoil(some)
	if b, _ := d.Read(0); !bytes.Equal(b, sectorOf("cd")) {
		t.Error("Write has kept its argument")
	}
	fates := []api.Fate{{Step: 2, Kind: api.FFail}, {Step: 2, Kind: api.FBefore}}
	d.Plan(fates...)
	if fates[0] != (api.Fate{Step: 2, Kind: api.FFail}) || fates[1] != (api.Fate{Step: 2, Kind: api.FBefore}) {
		t.Error("Plan has changed its argument")
	}
	fates[0] = api.Fate{}
	fates[1] = api.Fate{}
	if e := d.Sync(); e != api.ErrDisk {
		t.Errorf("Plan has kept its argument: %d", e)
	}
	keeps := []int{3, 0, 0}
	d.On(keeps...)
	if !slices.Equal(keeps, []int{3, 0, 0}) {
		t.Error("On has changed its argument")
	}
}

// P7.4
func TestAnswersAreNew(t *testing.T) {
	d := disk.Load(bytes.Repeat([]byte("ab"), api.Sector))
	d.Write(1, []byte("cd"))
	all, safe := d.All(), d.Safe()
	for range 2 {
		for i := range d.Size() {
			b, _ := d.Read(i)
			spoil(b)
		}
		spoil(d.All())
		spoil(d.Safe())
		for i := range d.Loose() {
			d.Loose()[i] = 9
		}
		if !bytes.Equal(d.All(), all) || !bytes.Equal(d.Safe(), safe) || !slices.Equal(d.Loose(), []int{1}) {
			t.Error("answers share memory with the disk")
		}
	}
}
