package cache_test

import (
	"bytes"
	"encoding/binary"
	"math/rand/v2"
	"slices"
	"testing"

	"skein/api"
	"skein/cache"
	"skein/disk"
	"skein/page"
	"skein/wal"
)

// model is what a pool has to tell, whoever leaves it.
type model struct {
	*bench
	frames  int
	told    [][]byte      // by a page's number what Get tells: what was put last, or what the disk had; nil, if that is no page
	lies    [][]byte      // by a page's number the bytes of its sector
	first   [][]byte      // those that it had when the pool was made
	may     [][][]byte    // by a page's number what its sector may have behind a crash
	since   map[int]int64 // of each dirty page its rec
	pins    map[int]int   // of each pinned page how often it is
	failing int           // the kind of the fate of the step that is to be refused
	fails   int           // that step's number
	dead    bool
}

// newModel is the model of a pool that was made just now.
func newModel(b *bench, frames int) *model {
	m := &model{bench: b, frames: frames, since: map[int]int64{}, pins: map[int]int{}}
	for n := range b.count {
		x := bytes.Clone(b.sector(n))
		m.lies, m.first = append(m.lies, x), append(m.first, x)
		m.may = append(m.may, [][]byte{x})
		g, e := page.Parse(x)
		switch {
		case bytes.Count(x, []byte{0}) == api.Sector:
			m.told = append(m.told, page.New(0, 0).Bytes())
		case e == api.OK:
			m.told = append(m.told, g.Bytes())
		default:
			m.told = append(m.told, nil)
		}
	}
	return m
}

// wants is the error of a call that needs a page in a frame, if no step is refused.
func (m *model) wants(n int) api.Errno {
	switch {
	case m.dead:
		return api.ErrDead
	case n < 0 || n >= m.count:
		return api.ErrArg
	case m.pins[n] == 0 && len(m.pins) == m.frames:
		return api.ErrPinned
	case m.told[n] == nil:
		return api.ErrPage
	}
	return api.OK
}

// meets is the error that a call has to answer, if it has done the steps that the disk has counted since.
func (m *model) meets(since int, want api.Errno) api.Errno {
	if m.dead || since >= m.fails || m.d.Steps() < m.fails {
		return want
	}
	m.dead = true
	if m.failing == api.FFail {
		return api.ErrDisk
	}
	return api.ErrPower
}

// same holds all that is told without a step against the model, behind each call.
func (m *model) same(t *testing.T) {
	t.Helper()
	left := m.p.Dirty()
	for _, x := range left {
		if rec, ok := m.since[x.Page]; !ok || rec != x.Rec {
			t.Fatalf("Dirty has %v, want %d", x, rec)
		}
	}
	if !slices.IsSortedFunc(left, func(a, b api.Dirty) int { return a.Page - b.Page }) {
		t.Fatalf("Dirty %v isn't rising", left)
	}
	for n := range m.since {
		if !slices.ContainsFunc(left, func(x api.Dirty) bool { return x.Page == n }) {
			delete(m.since, n)
			m.lies[n] = m.told[n]
		}
	}
	m.samePins(t)
	m.sameSectors(t)
}

func (m *model) samePins(t *testing.T) {
	t.Helper()
	var pins []int
	held := len(m.since)
	for n := range m.count {
		if _, dirty := m.since[n]; m.pins[n] > 0 && !dirty {
			held++
		}
		pins = append(pins, slices.Repeat([]int{n}, m.pins[n])...)
	}
	if got := m.p.Pins(); !slices.Equal(got, pins) {
		t.Fatalf("Pins %v, want %v", got, pins)
	}
	if got := m.p.Frames(); got > m.frames || got < held {
		t.Fatalf("%d frames of %d, though %d pages are pinned or dirty", got, m.frames, held)
	}
}

// sameSectors tells whether the disk has of each page what it had, or what was written, and nothing ahead of the log.
func (m *model) sameSectors(t *testing.T) {
	t.Helper()
	all := m.d.All()
	if !bytes.Equal(all[logSectors*api.Sector:][:api.Sector], noise) || !bytes.Equal(all[(base+m.count)*api.Sector:], noise) {
		t.Fatal("a sector beside the pages has been written over")
	}
	for n := range m.count {
		x := all[(base+n)*api.Sector:][:api.Sector]
		if !bytes.Equal(x, m.lies[n]) && !(m.dead && bytes.Equal(x, m.told[n])) {
			t.Fatalf("the sector of page %d has other bytes than were written", n)
		}
		// Where the LSN lies is read here: a page's sum takes long, and its bytes have been held against those that were written.
		if lsn := int64(binary.LittleEndian.Uint64(x[4:])); lsn >= m.l.Safe() && !bytes.Equal(x, m.first[n]) {
			t.Fatalf("page %d was written with the LSN %d, safe is what is below %d", n, lsn, m.l.Safe())
		}
	}
}

func (m *model) get(t *testing.T, n int) {
	t.Helper()
	steps := m.d.Steps()
	want := m.wants(n)
	g, e := m.p.Get(n)
	want = m.meets(steps, want)
	if e != want || (g == nil) != (e != api.OK) {
		t.Fatalf("Get(%d) = %v, %d, want %d", n, g, e, want)
	}
	if e == api.OK && !bytes.Equal(g.Bytes(), m.told[n]) {
		t.Fatalf("Get(%d) tells another page", n)
	}
}

func (m *model) put(t *testing.T, n, x int, lsn int64) {
	t.Helper()
	steps := m.d.Steps()
	want := m.wants(n)
	e := m.p.Put(n, some(x), lsn)
	want = m.meets(steps, want)
	if e != want {
		t.Fatalf("Put(%d) = %d, want %d", n, e, want)
	}
	if e != api.OK {
		return
	}
	if _, ok := m.since[n]; !ok {
		m.since[n] = lsn
	}
	m.told[n] = with(some(x), lsn)
	m.may[n] = append(m.may[n], m.told[n])
}

func (m *model) pin(t *testing.T, n int) {
	t.Helper()
	steps := m.d.Steps()
	want := m.wants(n)
	e := m.p.Pin(n)
	want = m.meets(steps, want)
	if e != want {
		t.Fatalf("Pin(%d) = %d, want %d", n, e, want)
	}
	if e == api.OK {
		m.pins[n]++
	}
}

func (m *model) unpin(t *testing.T, n int) {
	t.Helper()
	want := api.OK
	if m.pins[n] == 0 {
		want = api.ErrLoose
	}
	if e := m.p.Unpin(n); e != want {
		t.Fatalf("Unpin(%d) = %d, want %d", n, e, want)
	}
	if m.pins[n]--; m.pins[n] <= 0 {
		delete(m.pins, n)
	}
}

func (m *model) flush(t *testing.T) {
	t.Helper()
	steps := m.d.Steps()
	want := api.OK
	if m.dead {
		want = api.ErrDead
	}
	e := m.p.Flush()
	want = m.meets(steps, want)
	if e != want {
		t.Fatalf("Flush = %d, want %d", e, want)
	}
	if e != api.OK {
		return
	}
	if len(m.p.Dirty()) != 0 || len(m.d.Loose()) != 0 {
		t.Fatalf("behind Flush: dirty %v, pending %v", m.p.Dirty(), m.d.Loose())
	}
	m.same(t)
	for n, x := range m.lies {
		m.may[n] = [][]byte{x}
	}
}

// lsn is the LSN of one more record; if the log is full, all pages are written and it is reset. Below 0: the log takes none.
func (m *model) lsn(t *testing.T) int64 {
	t.Helper()
	at, e := m.l.Append(1, make([]byte, 60))
	if e == api.ErrLogFull {
		m.flush(t)
		if m.dead || m.l.Reset() != api.OK {
			return -1
		}
		return m.lsn(t)
	}
	if e != api.OK {
		return -1
	}
	return at
}

// someCalls does calls in any order, until one has met the step that is to be refused.
func (m *model) someCalls(t *testing.T, r *rand.Rand, calls int) {
	t.Helper()
	for range calls {
		n := r.IntN(m.count)
		if r.IntN(30) == 0 {
			n = m.count*r.IntN(2) - 1 + r.IntN(2)*2
		}
		switch x := r.IntN(20); {
		case x < 7:
			m.get(t, n)
		case x < 14:
			if at := m.lsn(t); at >= 0 {
				m.put(t, n, r.IntN(90), at)
			}
		case x < 16:
			m.pin(t, n)
		case x < 18:
			m.unpin(t, n)
		case x < 19 && r.IntN(3) == 0:
			m.flush(t)
		case x < 20 && r.IntN(3) == 0:
			m.l.Flush()
		}
		if m.d.Steps() >= m.fails && !m.dead {
			return // a step of the log by itself was refused, and the pool hasn't met it
		}
		m.same(t)
	}
}

// crash lets the power go and come back, with some of the pending sectors, and tells whether the disk has only what may be.
func (m *model) crash(t *testing.T, r *rand.Rand) {
	t.Helper()
	var keeps []int
	for _, i := range m.d.Loose() {
		if r.IntN(2) == 0 {
			keeps = append(keeps, i)
		}
	}
	m.d.On(keeps...)
	m.d.Plan()
	l, _, e := wal.Open(m.d, 0, logSectors)
	if e != api.OK {
		t.Fatalf("Open = %d", e)
	}
	for n := range m.count {
		x := m.sector(n)
		if !slices.ContainsFunc(m.may[n], func(y []byte) bool { return bytes.Equal(x, y) }) {
			t.Fatalf("behind a crash page %d has what was lost, or never put", n)
		}
		if g, e := page.Parse(x); e == api.OK && g.LSN() >= l.End() && !bytes.Equal(x, m.first[n]) {
			t.Fatalf("behind a crash page %d has the LSN %d, the log ends at %d", n, g.LSN(), l.End())
		}
	}
}

// P10.1 to P10.4: any calls in any order, steps that are refused, and crashes of which any pending sectors persist.
func TestCallsInAnyOrder(t *testing.T) {
	for seed := range uint64(120) {
		r := rand.New(rand.NewPCG(seed, 10))
		count, frames := 1+r.IntN(12), 1+r.IntN(6)
		sectors := [][]byte{some(5).Bytes(), noise, make([]byte, api.Sector), with(some(8), 77)}
		r.Shuffle(len(sectors), func(i, j int) { sectors[i], sectors[j] = sectors[j], sectors[i] })
		b := newBench(t, count, frames, sectors[:min(count, 4)]...)
		for range 6 {
			m := newModel(b, frames)
			m.fails = 1 << 30
			if r.IntN(3) > 0 {
				m.fails, m.failing = b.d.Steps()+1+r.IntN(60), 1+r.IntN(3)
				b.d.Plan(api.Fate{Step: m.fails, Kind: m.failing})
			}
			m.someCalls(t, r, 150)
			m.crash(t, r)
			b.open(t, frames)
		}
	}
}

// script does the same calls each time, however they end.
func script(b *bench, seed uint64, calls int) []any {
	r := rand.New(rand.NewPCG(seed, 11))
	var told []any
	for range calls {
		n := r.IntN(b.count)
		var e api.Errno
		switch r.IntN(9) {
		case 0, 1:
			_, e = b.p.Get(n)
		case 2, 3, 4:
			at, _ := b.l.Append(1, make([]byte, r.IntN(30)))
			e = b.p.Put(n, some(r.IntN(90)), at)
		case 5:
			e = b.p.Pin(n)
		case 6, 7:
			if pins := b.p.Pins(); len(pins) > 0 {
				n = pins[n%len(pins)]
			}
			e = b.p.Unpin(n)
		case 8:
			if r.IntN(4) == 0 {
				e = b.p.Flush()
			}
		}
		told = append(told, e, b.p.Frames(), len(b.p.Dirty()), b.d.Steps())
	}
	return told
}

// P10.3: at each time, so at each step, within a call too: no page on the disk has an LSN that isn't safe.
func TestNeverAheadOfTheLog(t *testing.T) {
	for seed := range uint64(12) {
		for step := 5; ; step++ {
			b := newBench(t, 7, 3)
			b.d.Plan(api.Fate{Step: step, Kind: api.FBehind})
			script(b, seed, 60)
			if b.d.Power() {
				break
			}
			// The log as a crash would find it now, that loses all of it that is pending.
			l, _, e := wal.Open(disk.Load(b.d.Safe()), 0, logSectors)
			if e != api.OK {
				t.Fatalf("Open = %d", e)
			}
			for n := range b.count {
				if g, e := page.Parse(b.sector(n)); e == api.OK && g.LSN() >= l.End() {
					t.Fatalf("at step %d page %d has the LSN %d, the log ends at %d", step, n, g.LSN(), l.End())
				}
			}
		}
	}
}

// P2: the same calls are answered the same, and do the same to the disk.
func TestSameCalls(t *testing.T) {
	for seed := range uint64(20) {
		a, b := newBench(t, 9, 4), newBench(t, 9, 4)
		if !slices.Equal(script(a, seed, 200), script(b, seed, 200)) || !bytes.Equal(a.d.All(), b.d.All()) {
			t.Fatal("the same calls are answered otherwise")
		}
	}
}

// P1: calls that were refused change nothing that the calls behind them could tell.
func TestRefusedCallsChangeNothing(t *testing.T) {
	for seed := range uint64(40) {
		a, b := newBench(t, 9, 2, noise), newBench(t, 9, 2, noise)
		for part := range uint64(60) {
			for n := -1; n <= 9; n += 10 {
				a.p.Get(n)
				a.p.Put(n, some(1), 5)
				a.p.Pin(n)
				a.p.Unpin(n)
			}
			if len(slices.Compact(a.p.Pins())) == 2 { // else a frame may be freed
				a.p.Get(0)
				a.p.Put(0, some(1), 5)
				a.p.Pin(0)
			}
			if !slices.Equal(script(a, seed*100+part, 4), script(b, seed*100+part, 4)) {
				t.Fatal("a call that was refused has changed something")
			}
		}
		if !bytes.Equal(a.d.All(), b.d.All()) {
			t.Fatal("a call that was refused has changed the disk")
		}
	}
}

// P10.1: as many pages and frames as may be.
func TestGreatestPool(t *testing.T) {
	count := api.MaxSectors - base - 1
	b := newBench(t, count, api.MaxFrames)
	for n := range count {
		if e := b.p.Put(n, some(n), 1); e != api.OK {
			t.Fatalf("Put(%d) = %d", n, e)
		}
	}
	if b.p.Frames() != api.MaxFrames || len(b.p.Dirty()) > api.MaxFrames {
		t.Errorf("%d frames, %d pages are dirty", b.p.Frames(), len(b.p.Dirty()))
	}
	if e := b.p.Flush(); e != api.OK {
		t.Fatalf("Flush = %d", e)
	}
	b.d.On()
	b.p = cache.New(b.d, b.l, base, count, 1)
	for n := range count {
		b.has(t, n, with(some(n), 1))
	}
}

// P10.5
func TestArgumentsAreTheirOwners(t *testing.T) {
	b := newBench(t, 3, 2)
	g := some(13)
	g.SetLSN(99)
	before := g.Bytes()
	at := b.record(t)
	if e := b.p.Put(1, g, at); e != api.OK || !bytes.Equal(g.Bytes(), before) {
		t.Fatalf("Put = %d, or has changed its argument", e)
	}
	want := with(g, at)
	spoil(g)
	b.has(t, 1, want)
	// Put over a page that is dirty already.
	again := some(27)
	if e := b.p.Put(1, again, at); e != api.OK {
		t.Fatalf("Put = %d", e)
	}
	spoil(again)
	want = with(some(27), at)
	b.has(t, 1, want)
	if e := b.p.Flush(); e != api.OK || !bytes.Equal(b.sector(1), want) {
		t.Errorf("Flush = %d, or Put has kept its argument", e)
	}
}

// spoil changes all of a page.
func spoil(g *page.Page) {
	for i := range g.Len() {
		item, _ := g.Item(i)
		for k := range item {
			item[k] ^= 0xff
		}
		g.Replace(i, item)
	}
	g.Remove(0)
	g.Insert(0, []byte("spoilt"))
	g.Insert(0, nil)
	g.SetExtra(12345)
	g.SetLSN(1 << 50)
}

// P10.5
func TestAnswersAreNew(t *testing.T) {
	b := newBench(t, 4, 4, some(13).Bytes(), some(20).Bytes())
	at := b.put(t, 1, 27)
	want := [][]byte{some(13).Bytes(), with(some(27), at), page.New(0, 0).Bytes()}
	for range 2 {
		for n, x := range want {
			one, other := b.get(t, n), b.get(t, n)
			spoil(one)
			if !bytes.Equal(other.Bytes(), x) {
				t.Error("two answers share memory")
			}
			spoil(other)
			b.has(t, n, x)
		}
		if e := b.p.Flush(); e != api.OK {
			t.Fatalf("Flush = %d", e)
		}
	}
	old := b.get(t, 1)
	before := old.Bytes()
	b.put(t, 1, 6)
	if !bytes.Equal(old.Bytes(), before) {
		t.Error("an answer has changed behind the call")
	}
	b.pin(t, 0, 1, 1)
	dirty, pins := b.p.Dirty(), b.p.Pins()
	clear(dirty[:cap(dirty)])
	clear(pins[:cap(pins)])
	if !slices.Equal(b.dirty(), []int{1}) || !slices.Equal(b.p.Pins(), []int{0, 1, 1}) {
		t.Error("lists share memory with the pool")
	}
}
