package cache_test

import (
	"bytes"
	"math"
	"slices"
	"testing"

	"skein/api"
	"skein/cache"
	"skein/disk"
	"skein/page"
	"skein/wal"
)

const (
	logSectors = 4
	base       = logSectors + 1 // one sector lies between the log and the pages, and one behind these
)

var noise = bytes.Repeat([]byte{0xee}, api.Sector)

// bench is a disk with a log and pages, and a pool over these.
type bench struct {
	d     *disk.Disk
	l     *wal.Log
	p     *cache.Pool
	count int
}

// newBench is a bench whose first pages have these sectors, the others none but bytes 0. The log takes records.
func newBench(t *testing.T, count, frames int, sectors ...[]byte) *bench {
	t.Helper()
	all := make([]byte, (base+count+1)*api.Sector)
	copy(all[logSectors*api.Sector:], noise)
	copy(all[(base+count)*api.Sector:], noise)
	for i, b := range sectors {
		copy(all[(base+i)*api.Sector:], b)
	}
	b := &bench{d: disk.Load(all), count: count}
	if e := wal.Format(b.d, 0, logSectors); e != api.OK {
		t.Fatalf("Format = %d", e)
	}
	b.open(t, frames)
	return b
}

// open opens the log anew, and makes another pool.
func (b *bench) open(t *testing.T, frames int) {
	t.Helper()
	var e api.Errno
	if b.l, _, e = wal.Open(b.d, 0, logSectors); e != api.OK {
		t.Fatalf("Open = %d", e)
	}
	if e := b.l.Reset(); e != api.OK {
		t.Fatalf("Reset = %d", e)
	}
	b.p = cache.New(b.d, b.l, base, b.count, frames)
}

// some is one of many pages.
func some(x int) *page.Page {
	p := page.New(x, uint32(7*x))
	for i := range x % 7 {
		p.Insert(i, bytes.Repeat([]byte{byte(x + i)}, x%50+i))
	}
	return p
}

// with is a page's bytes with this LSN.
func with(g *page.Page, lsn int64) []byte {
	q, _ := page.Parse(g.Bytes())
	q.SetLSN(lsn)
	return q.Bytes()
}

// record is one more record of the log.
func (b *bench) record(t *testing.T) int64 {
	t.Helper()
	at, e := b.l.Append(1, []byte("a record"))
	if e != api.OK {
		t.Fatalf("Append = %d", e)
	}
	return at
}

// put puts one of many pages in, with the LSN of a record that isn't safe.
func (b *bench) put(t *testing.T, n, x int) int64 {
	t.Helper()
	at := b.record(t)
	if e := b.p.Put(n, some(x), at); e != api.OK {
		t.Fatalf("Put(%d) = %d", n, e)
	}
	return at
}

// has tells whether the pool tells a page of these bytes.
func (b *bench) has(t *testing.T, n int, want []byte) {
	t.Helper()
	g, e := b.p.Get(n)
	if g == nil || e != api.OK {
		t.Fatalf("Get(%d) = %v, %d", n, g, e)
	}
	if !bytes.Equal(g.Bytes(), want) {
		t.Fatalf("Get(%d) tells another page: LSN %d, extra %d", n, g.LSN(), g.Extra())
	}
}

// get is a page that is there.
func (b *bench) get(t *testing.T, n int) *page.Page {
	t.Helper()
	g, e := b.p.Get(n)
	if g == nil || e != api.OK {
		t.Fatalf("Get(%d) = %v, %d", n, g, e)
	}
	return g
}

func (b *bench) pin(t *testing.T, pages ...int) {
	t.Helper()
	for _, n := range pages {
		if e := b.p.Pin(n); e != api.OK {
			t.Fatalf("Pin(%d) = %d", n, e)
		}
	}
}

// dirty are the numbers of the dirty pages.
func (b *bench) dirty() []int {
	var out []int
	for _, x := range b.p.Dirty() {
		out = append(out, x.Page)
	}
	return out
}

// sector is what the disk has of a page.
func (b *bench) sector(n int) []byte {
	return b.d.All()[(base+n)*api.Sector:][:api.Sector]
}

// refuse lets the step after so many others be refused.
func (b *bench) refuse(after, kind int) {
	b.d.Plan(api.Fate{Step: b.d.Steps() + 1 + after, Kind: kind})
}

// off lets the power go without a step of the pool or the log.
func (b *bench) off() {
	b.refuse(0, api.FBefore)
	b.d.Sync()
}

// asks are the three calls that need a page in a frame; each tells its error, and whether the rest of its answer is zero beside one.
func (b *bench) asks() map[string]func(n int) (api.Errno, bool) {
	return map[string]func(n int) (api.Errno, bool){
		"Get": func(n int) (api.Errno, bool) {
			g, e := b.p.Get(n)
			return e, (g == nil) == (e != api.OK)
		},
		"Put": func(n int) (api.Errno, bool) { return b.p.Put(n, some(3), 9), true },
		"Pin": func(n int) (api.Errno, bool) { return b.p.Pin(n), true },
	}
}

// refused holds the answer of one of the calls against the error that is wanted.
func (b *bench) refused(t *testing.T, name string, n int, want api.Errno) {
	t.Helper()
	frames, pins, dirty := b.p.Frames(), b.p.Pins(), b.p.Dirty()
	if e, zero := b.asks()[name](n); e != want || !zero {
		t.Errorf("%s(%d) = %d, want %d", name, n, e, want)
	}
	if want == api.ErrPage {
		return
	}
	if b.p.Frames() != frames || !slices.Equal(b.p.Pins(), pins) || !slices.Equal(b.p.Dirty(), dirty) {
		t.Errorf("%s(%d), refused, has changed something", name, n)
	}
}

var callNames = []string{"Get", "Put", "Pin"}

func TestExample(t *testing.T) {
	b := newBench(t, 3, 1)
	at := b.put(t, 0, 5)
	if g := b.get(t, 1); g.Len() != 0 {
		t.Errorf("page 1 has %d slots", g.Len())
	}
	if b.l.Safe() != b.l.End() || !bytes.Equal(b.sector(0), with(some(5), at)) {
		t.Error("page 0 isn't on the disk, or its record isn't safe")
	}
	b.pin(t, 1)
	if g, e := b.p.Get(0); g != nil || e != api.ErrPinned {
		t.Errorf("Get(0) = %v, %d", g, e)
	}
}

// P10.1: what the disk has, in each of the forms of a page.
func TestWhatTheDiskHad(t *testing.T) {
	full := page.New(255, math.MaxUint32)
	for full.Room() >= 0 {
		full.Insert(0, make([]byte, min(full.Room(), 90)))
	}
	full.SetLSN(math.MaxInt64)
	many := page.New(1, 1)
	for i := range api.MaxSlots {
		many.Insert(i, []byte{byte(i), 1, 2}[:i%4])
	}
	blank := page.New(0, 0).Bytes()
	want := [][]byte{full.Bytes(), many.Bytes(), some(9).Bytes(), blank}
	b := newBench(t, 5, 2, want...)
	want = append(want, blank) // the sector of the last one has bytes 0 alone
	for range 2 {
		for n, x := range want {
			b.has(t, n, x)
		}
	}
	if g := b.get(t, 4); g.Kind() != 0 || g.Extra() != 0 || g.Len() != 0 || g.LSN() != 0 {
		t.Error("bytes 0 aren't an empty page of kind 0")
	}
	if len(b.p.Dirty()) != 0 || len(b.p.Pins()) != 0 || b.d.Steps() != 4 {
		t.Errorf("what was but read: dirty %v, pins %v, %d steps", b.p.Dirty(), b.p.Pins(), b.d.Steps()-4)
	}
}

// P10.1: whatever a page has: it is put and told again, from its frame and from the disk.
func TestWhatWasPut(t *testing.T) {
	b := newBench(t, 3, 1)
	full := page.New(255, math.MaxUint32)
	for full.Room() >= 0 {
		full.Insert(0, make([]byte, full.Room()))
	}
	slots := page.New(-1, 3)
	for i := range api.MaxSlots {
		slots.Insert(i, make([]byte, i%3))
	}
	shrunk := some(6)
	shrunk.Remove(2)
	shrunk.Replace(0, []byte("x"))
	for _, g := range []*page.Page{page.New(0, 0), page.New(256, 0), full, slots, shrunk, some(13)} {
		for _, own := range []int64{0, math.MaxInt64} {
			g.SetLSN(own) // the one that is handed in beside it counts
			at := b.record(t)
			if e := b.p.Put(2, g, at); e != api.OK {
				t.Fatalf("Put = %d", e)
			}
			b.has(t, 2, with(g, at))
			b.get(t, 0)
			if !bytes.Equal(b.sector(2), with(g, at)) {
				t.Error("the disk has another page")
			}
			b.has(t, 2, with(g, at))
		}
	}
}

// P10.1: LSNs of Put, those beyond the log and below 0 among them; the page's LSN is told as its rec, too.
func TestPutLSN(t *testing.T) {
	for _, x := range [][2]int64{{0, 0}, {1, 1}, {-1, 0}, {math.MinInt64, 0}, {1 << 40, 1 << 40}, {math.MaxInt64, math.MaxInt64}} {
		b := newBench(t, 2, 1)
		if e := b.p.Put(1, some(4), x[0]); e != api.OK {
			t.Fatalf("Put = %d", e)
		}
		if got := b.p.Dirty(); !slices.Equal(got, []api.Dirty{{Page: 1, Rec: x[1]}}) {
			t.Errorf("Put with the LSN %d: Dirty %v", x[0], got)
		}
		b.has(t, 1, with(some(4), x[1]))
		steps := b.d.Steps()
		if e := b.p.Flush(); e != api.OK || b.d.Steps() != steps+2 || !bytes.Equal(b.sector(1), with(some(4), x[1])) {
			t.Errorf("Flush of LSN %d = %d, %d steps", x[0], e, b.d.Steps()-steps)
		}
	}
}

// P10.1: pages are the sectors from base on, and no others.
func TestWhereThePagesLie(t *testing.T) {
	b := newBench(t, 4, 2)
	before := b.d.All()
	for n := range 4 {
		b.put(t, n, 10+n)
	}
	if e := b.p.Flush(); e != api.OK {
		t.Fatalf("Flush = %d", e)
	}
	after := b.d.All()
	for i := logSectors; i < b.d.Size(); i++ {
		was, is := before[i*api.Sector:][:api.Sector], after[i*api.Sector:][:api.Sector]
		if i < base || i >= base+4 {
			if !bytes.Equal(is, was) {
				t.Errorf("sector %d has been written over", i)
			}
			continue
		}
		if g, e := page.Parse(is); e != api.OK || g.Extra() != uint32(7*(10+i-base)) {
			t.Errorf("sector %d: %d", i, e)
		}
	}
	other := cache.New(b.d, b.l, base+1, 2, 3)
	if g, e := other.Get(0); e != api.OK || g.Extra() != 7*11 {
		t.Errorf("page 0 from the next sector on: %d", e)
	}
	if g, e := other.Get(2); g != nil || e != api.ErrArg {
		t.Errorf("a page beyond the count: %d", e)
	}
}

// P10.2: how many frames there are at least, and at most.
func TestFramesAreClamped(t *testing.T) {
	const count = api.MaxFrames + 6
	for _, x := range [][2]int{
		{math.MinInt, 1}, {-1, 1}, {0, 1}, {1, 1}, {2, 2}, {api.MaxFrames - 1, api.MaxFrames - 1}, {api.MaxFrames, api.MaxFrames}, {api.MaxFrames + 1, api.MaxFrames}, {math.MaxInt, api.MaxFrames},
	} {
		b := newBench(t, count, x[0])
		if b.p.Frames() != 0 {
			t.Errorf("%d frames hold a page at first", b.p.Frames())
		}
		for n := range count {
			b.get(t, n)
			if b.p.Frames() != min(n+1, x[1]) {
				t.Fatalf("New(.., %d): %d frames behind %d pages", x[0], b.p.Frames(), n+1)
			}
		}
		for n := range count {
			want := api.OK
			if n >= x[1] {
				want = api.ErrPinned
			}
			if e := b.p.Pin(n); e != want {
				t.Fatalf("New(.., %d): Pin(%d) = %d", x[0], n, e)
			}
		}
		if b.p.Frames() != x[1] || len(b.p.Pins()) != x[1] {
			t.Errorf("New(.., %d): %d frames, %d pins", x[0], b.p.Frames(), len(b.p.Pins()))
		}
	}
}

// P10.2: a pool without pages.
func TestNoPages(t *testing.T) {
	b := newBench(t, 0, 3)
	for _, count := range []int{0, -1, math.MinInt} {
		b.p = cache.New(b.d, b.l, base, count, 3)
		for _, n := range []int{0, -1, 1, math.MaxInt, math.MinInt} {
			for _, name := range callNames {
				b.refused(t, name, n, api.ErrArg)
			}
			if e := b.p.Unpin(n); e != api.ErrLoose {
				t.Errorf("Unpin(%d) = %d", n, e)
			}
		}
		if e := b.p.Flush(); e != api.OK || b.d.Steps() != 4 {
			t.Errorf("Flush = %d, %d steps", e, b.d.Steps()-4)
		}
	}
}

// P10.2: pins are counted, and told rising.
func TestPins(t *testing.T) {
	b := newBench(t, 5, 3)
	b.pin(t, 4, 1, 4, 4, 2)
	if got := b.p.Pins(); !slices.Equal(got, []int{1, 2, 4, 4, 4}) {
		t.Errorf("Pins %v", got)
	}
	for _, name := range callNames {
		b.refused(t, name, 0, api.ErrPinned)
	}
	for _, n := range []int{0, 3, -1, 5, math.MaxInt, math.MinInt} {
		if e := b.p.Unpin(n); e != api.ErrLoose {
			t.Errorf("Unpin(%d) = %d", n, e)
		}
	}
	for _, x := range []struct {
		n    int
		want api.Errno
		pins []int
	}{
		{4, api.OK, []int{1, 2, 4, 4}}, {1, api.OK, []int{2, 4, 4}}, {1, api.ErrLoose, []int{2, 4, 4}}, {4, api.OK, []int{2, 4}}, {4, api.OK, []int{2}}, {4, api.ErrLoose, []int{2}},
	} {
		if e := b.p.Unpin(x.n); e != x.want || !slices.Equal(b.p.Pins(), x.pins) {
			t.Errorf("Unpin(%d) = %d: %v, want %v", x.n, e, b.p.Pins(), x.pins)
		}
	}
	for n := range 5 {
		b.get(t, n)
	}
	// Pages that are in a frame and not pinned, or that have left it, aren't pinned.
	for _, n := range []int{0, 1, 3, 4} {
		if e := b.p.Unpin(n); e != api.ErrLoose {
			t.Errorf("Unpin(%d) = %d", n, e)
		}
	}
	if e := b.p.Unpin(2); e != api.OK || len(b.p.Pins()) != 0 {
		t.Errorf("Unpin(2) = %d, %v", e, b.p.Pins())
	}
}

// P10.2: a pinned page stays in its frame, whatever comes and goes; one that isn't pinned any more may leave.
func TestPinnedPagesStay(t *testing.T) {
	b := newBench(t, 12, 3)
	at := b.put(t, 7, 20)
	b.pin(t, 7, 8)
	for range 3 {
		for n := range 12 {
			if n != 7 && n != 8 {
				b.put(t, n, n)
			}
			if b.p.Frames() > 3 {
				t.Fatalf("%d frames", b.p.Frames())
			}
		}
	}
	if !slices.Contains(b.p.Dirty(), api.Dirty{Page: 7, Rec: at}) {
		t.Error("a pinned page was written, though it needn't leave")
	}
	b.pin(t, 3)
	steps := b.d.Steps()
	b.off()
	b.has(t, 7, with(some(20), at)) // no disk is needed
	b.has(t, 8, page.New(0, 0).Bytes())
	if e := b.p.Pin(8); e != api.OK || b.d.Steps() != steps+1 {
		t.Errorf("Pin of a page in a frame = %d", e)
	}
	b.refused(t, "Get", 0, api.ErrPinned)
	b.d.On()
	for range 2 {
		b.p.Unpin(8)
	}
	b.get(t, 0)
	if b.p.Frames() != 3 || !slices.Equal(b.p.Pins(), []int{3, 7}) {
		t.Errorf("%d frames, pins %v", b.p.Frames(), b.p.Pins())
	}
}

// P10.2: the page that is in a frame is no reason for ErrPinned, nor is a frame that is free.
func TestNotPinned(t *testing.T) {
	b := newBench(t, 4, 2)
	b.pin(t, 0)
	b.get(t, 1)
	b.pin(t, 1)
	b.put(t, 0, 5)
	b.get(t, 1)
	b.pin(t, 0, 1)
	b.refused(t, "Put", 2, api.ErrPinned)
	b.p.Unpin(1)
	b.refused(t, "Put", 2, api.ErrPinned)
	b.p.Unpin(1)
	b.put(t, 2, 6)
	b.put(t, 3, 6)
	if !slices.Equal(b.p.Pins(), []int{0, 0}) || !slices.Contains(b.dirty(), 0) {
		t.Errorf("pins %v, dirty %v", b.p.Pins(), b.p.Dirty())
	}
}

// P10.4: what is dirty, and since which record.
func TestDirty(t *testing.T) {
	b := newBench(t, 6, 4)
	dirty := func(want ...api.Dirty) {
		t.Helper()
		if got := b.p.Dirty(); !slices.Equal(got, want) {
			t.Fatalf("Dirty %v, want %v", got, want)
		}
	}
	dirty()
	first := b.put(t, 3, 1)
	second := b.put(t, 0, 2)
	dirty(api.Dirty{Page: 0, Rec: second}, api.Dirty{Page: 3, Rec: first})
	last := b.put(t, 3, 5)
	dirty(api.Dirty{Page: 0, Rec: second}, api.Dirty{Page: 3, Rec: first})
	b.has(t, 3, with(some(5), last))
	b.get(t, 1)
	b.pin(t, 0, 2)
	dirty(api.Dirty{Page: 0, Rec: second}, api.Dirty{Page: 3, Rec: first})
	if e := b.p.Flush(); e != api.OK {
		t.Fatalf("Flush = %d", e)
	}
	dirty()
	// The same content again is newer than the disk all the same.
	if e := b.p.Put(3, some(5), last); e != api.OK {
		t.Fatalf("Put = %d", e)
	}
	dirty(api.Dirty{Page: 3, Rec: last})
	third := b.put(t, 0, 2)
	dirty(api.Dirty{Page: 0, Rec: third}, api.Dirty{Page: 3, Rec: last})
	// A smaller LSN than the one that it became dirty with leaves its rec.
	if e := b.p.Put(0, some(3), 4); e != api.OK {
		t.Fatalf("Put = %d", e)
	}
	dirty(api.Dirty{Page: 0, Rec: third}, api.Dirty{Page: 3, Rec: last})
	b.has(t, 0, with(some(3), 4))
}

// P10.4: a page that leaves is written, and isn't dirty any more; if it isn't dirty, no step is made.
func TestLeaving(t *testing.T) {
	b := newBench(t, 4, 1)
	b.put(t, 0, 1)
	steps := b.d.Steps()
	b.get(t, 1)
	if b.d.Steps() != steps+3 || len(b.p.Dirty()) != 0 {
		t.Errorf("%d steps, dirty %v", b.d.Steps()-steps, b.p.Dirty())
	}
	b.get(t, 2)
	b.get(t, 0)
	if b.d.Steps() != steps+3 {
		t.Errorf("%d steps for pages that aren't dirty", b.d.Steps()-steps-3)
	}
	// The log's records are safe already: the page's sector alone is written.
	b.put(t, 0, 2)
	b.l.Flush()
	steps = b.d.Steps()
	b.put(t, 3, 3)
	if b.d.Steps() != steps+1 || !slices.Equal(b.dirty(), []int{3}) || !slices.Equal(b.d.Loose(), []int{base}) {
		t.Errorf("%d steps, dirty %v, pending %v", b.d.Steps()-steps, b.p.Dirty(), b.d.Loose())
	}
	// The page that is put behind it may be the one that left.
	at := b.put(t, 0, 4)
	b.has(t, 0, with(some(4), at))
	if !slices.Equal(b.p.Dirty(), []api.Dirty{{Page: 0, Rec: at}}) || b.p.Frames() != 1 {
		t.Errorf("Dirty %v, %d frames", b.p.Dirty(), b.p.Frames())
	}
}

// P10.4: Flush makes just the steps that are said, in their order.
func TestFlush(t *testing.T) {
	for after := range 6 {
		b := newBench(t, 8, 8)
		for i, n := range []int{6, 1, 4} {
			b.put(t, n, 10+i)
		}
		b.get(t, 2)
		steps := b.d.Steps()
		b.refuse(after, api.FBefore)
		e := b.p.Flush()
		// The log's sector and a sync, three pages by rising numbers, and a sync.
		if e != api.ErrPower || b.d.Steps() != steps+after+1 {
			t.Fatalf("Flush = %d at step %d, %d steps", e, after+1, b.d.Steps()-steps)
		}
		want := [][]int{nil, {0}, nil, {base + 1}, {base + 1, base + 4}, {base + 1, base + 4, base + 6}}[after]
		if got := b.d.Loose(); !slices.Equal(got, want) {
			t.Errorf("behind %d steps of Flush: pending %v, want %v", after, got, want)
		}
		// What has been written isn't newer than the disk.
		if got := b.dirty(); !slices.Equal(got, []int{1, 4, 6}[max(after-2, 0):]) {
			t.Errorf("behind %d steps of Flush: dirty %v", after, got)
		}
	}
	b := newBench(t, 8, 8)
	flush := func(want int) {
		t.Helper()
		steps := b.d.Steps()
		if e := b.p.Flush(); e != api.OK || b.d.Steps() != steps+want {
			t.Errorf("Flush = %d, %d steps, want %d", e, b.d.Steps()-steps, want)
		}
		if len(b.p.Dirty()) != 0 || len(b.d.Loose()) != 0 {
			t.Errorf("behind Flush: dirty %v, pending %v", b.p.Dirty(), b.d.Loose())
		}
	}
	flush(0)
	b.get(t, 2)
	flush(0)
	for i, n := range []int{6, 1, 4} {
		b.put(t, n, 10+i)
	}
	flush(6)
	flush(0)
	b.put(t, 5, 3)
	b.l.Flush()
	flush(2)
	flush(0)
}

// P10.4: one sync more, if a page was written when it left, whoever has synced since.
func TestFlushBehindLeaving(t *testing.T) {
	for _, other := range []bool{false, true} {
		b := newBench(t, 8, 1)
		at := b.put(t, 6, 1)
		b.get(t, 0)
		if other { // it isn't the pool that syncs
			b.record(t)
			b.l.Flush()
		}
		steps := b.d.Steps()
		for i := range 2 {
			if e := b.p.Flush(); e != api.OK || b.d.Steps() != steps+1 {
				t.Errorf("Flush %d = %d, %d steps", i, e, b.d.Steps()-steps)
			}
		}
		b.d.On()
		if !bytes.Equal(b.sector(6), with(some(1), at)) {
			t.Error("a page that left isn't safe")
		}
	}
}

// P10.4: pinned pages are written by Flush, too, and stay in their frames.
func TestFlushOfPinnedPages(t *testing.T) {
	b := newBench(t, 4, 2)
	b.pin(t, 0, 1, 1)
	zero, one := b.put(t, 0, 8), b.put(t, 1, 9)
	if e := b.p.Flush(); e != api.OK || b.p.Frames() != 2 || !slices.Equal(b.p.Pins(), []int{0, 1, 1}) {
		t.Errorf("Flush = %d, %d frames, pins %v", e, b.p.Frames(), b.p.Pins())
	}
	b.d.On()
	if !bytes.Equal(b.sector(0), with(some(8), zero)) || !bytes.Equal(b.sector(1), with(some(9), one)) {
		t.Error("the disk has other pages")
	}
	b.has(t, 0, with(some(8), zero))
}

// P10.3: the log is flushed just if the page's LSN isn't below Safe.
func TestLogIsFlushedIfNeedBe(t *testing.T) {
	for _, x := range []struct {
		name string
		back int64 // so far ahead of Safe is the page's LSN
		want int   // steps of Flush
	}{
		{"the last byte that is safe", 1, 2}, {"long safe", 1 << 24, 2}, {"the first that isn't", 0, 4}, {"behind it", -1, 4}, {"far behind", -1 << 50, 4},
	} {
		b := newBench(t, 2, 1)
		b.record(t)
		b.l.Flush()
		b.record(t)
		safe, steps := b.l.Safe(), b.d.Steps()
		if e := b.p.Put(0, some(3), safe-x.back); e != api.OK {
			t.Fatalf("Put = %d", e)
		}
		if e := b.p.Flush(); e != api.OK || b.d.Steps() != steps+x.want || (b.l.Safe() != safe) != (x.want == 4) {
			t.Errorf("%s: Flush = %d, %d steps", x.name, e, b.d.Steps()-steps)
		}
	}
}

// P10.3: pages of a run ahead of a Reset need no flush of the log; of two pages the first flushes for both.
func TestLogIsFlushedOnce(t *testing.T) {
	b := newBench(t, 4, 4)
	b.put(t, 0, 1)
	b.put(t, 1, 2)
	if e := b.l.Reset(); e != api.OK {
		t.Fatalf("Reset = %d", e)
	}
	b.record(t)
	steps, safe := b.d.Steps(), b.l.Safe()
	if e := b.p.Flush(); e != api.OK || b.d.Steps() != steps+3 || b.l.Safe() != safe {
		t.Errorf("Flush behind a Reset = %d, %d steps", e, b.d.Steps()-steps)
	}
	b.put(t, 3, 1)
	b.put(t, 2, 2)
	steps = b.d.Steps()
	if e := b.p.Flush(); e != api.OK || b.d.Steps() != steps+5 || b.l.Safe() != b.l.End() {
		t.Errorf("Flush = %d, %d steps", e, b.d.Steps()-steps)
	}
}

// P10.3: over a log that was opened and not reset pages are written, too.
func TestLogThatWasOpened(t *testing.T) {
	b := newBench(t, 2, 1)
	b.record(t)
	b.l.Flush()
	l, _, e := wal.Open(b.d, 0, logSectors)
	if e != api.OK {
		t.Fatalf("Open = %d", e)
	}
	b.p = cache.New(b.d, l, base, 2, 1)
	steps := b.d.Steps()
	if e := b.p.Put(1, some(5), l.End()); e != api.OK {
		t.Fatalf("Put = %d", e)
	}
	if e := b.p.Flush(); e != api.OK || b.d.Steps() != steps+2 || !bytes.Equal(b.sector(1), with(some(5), l.End())) {
		t.Errorf("Flush = %d, %d steps", e, b.d.Steps()-steps)
	}
}

// badSectors are bytes that are no page, and aren't all 0.
func badSectors() map[string][]byte {
	turned := func(g *page.Page, at int, bit byte) []byte {
		b := g.Bytes()
		b[at] ^= bit
		return b
	}
	one := func(at int) []byte {
		b := make([]byte, api.Sector)
		b[at] = 1
		return b
	}
	return map[string][]byte{
		"noise":                  noise,
		"bytes 0 but the first":  one(0),
		"bytes 0 but the last":   one(api.Sector - 1),
		"bytes 0 but the middle": one(200),
		"an empty page's sum":    turned(page.New(0, 0), 0, 1),
		"a page's last bit":      turned(some(13), api.Sector-1, 128),
		"a page's LSN":           turned(some(13), 5, 4),
	}
}

// P10.1: a sector that is no page: nothing is pinned or left, and all goes on.
func TestNoPage(t *testing.T) {
	for name, bad := range badSectors() {
		for _, call := range callNames {
			b := newBench(t, 4, 2, some(1).Bytes(), bad)
			b.refused(t, call, 1, api.ErrPage)
			if b.p.Frames() != 0 || len(b.p.Pins()) != 0 || len(b.p.Dirty()) != 0 {
				t.Errorf("%s, %s: %d frames, pins %v, dirty %v", name, call, b.p.Frames(), b.p.Pins(), b.p.Dirty())
			}
			at := b.put(t, 2, 9)
			b.get(t, 0)
			frames := b.p.Frames()
			b.refused(t, call, 1, api.ErrPage)
			b.refused(t, call, 1, api.ErrPage)
			if got := b.p.Frames(); got > frames || got < frames-1 || len(b.p.Pins()) != 0 {
				t.Errorf("%s, %s: %d frames, pins %v", name, call, got, b.p.Pins())
			}
			if e := b.p.Unpin(1); e != api.ErrLoose {
				t.Errorf("%s, %s: Unpin = %d", name, call, e)
			}
			b.has(t, 0, some(1).Bytes())
			b.has(t, 2, with(some(9), at))
			if e := b.p.Flush(); e != api.OK || !bytes.Equal(b.sector(1), bad) || !bytes.Equal(b.sector(2), with(some(9), at)) {
				t.Errorf("%s, %s: Flush = %d, or other sectors", name, call, e)
			}
			b.pin(t, 0, 2)
			b.refused(t, call, 1, api.ErrPinned)
		}
	}
}

// P10.1: without power what is in a frame is told and taken; what isn't is ErrPower, and the pool isn't dead for it.
func TestWithoutPower(t *testing.T) {
	for _, call := range callNames {
		b := newBench(t, 6, 2, nil, noise)
		at := b.put(t, 0, 4)
		b.off()
		steps := b.d.Steps()
		for _, n := range []int{1, 2} { // ErrPower is ahead of ErrPage
			b.refused(t, call, n, api.ErrPower)
		}
		b.has(t, 0, with(some(4), at))
		b.put(t, 0, 5)
		b.pin(t, 0)
		b.p.Unpin(0)
		b.d.On()
		b.get(t, 2)
		if e := b.p.Flush(); e != api.OK {
			t.Fatalf("Flush = %d", e)
		}
		// A page that isn't dirty would leave: it stays.
		b.off()
		b.refused(t, call, 3, api.ErrPower)
		b.get(t, 0)
		b.get(t, 2)
		b.d.On()
		b.get(t, 3)
		if b.d.Steps() != steps+5 || b.p.Frames() != 2 {
			t.Errorf("%s: %d steps, %d frames", call, b.d.Steps()-steps, b.p.Frames())
		}
	}
}

// P10.1: errors, in their order.
func TestErrorsInOrder(t *testing.T) {
	for _, call := range callNames {
		for _, n := range []int{-1, 4, 5, math.MaxInt, math.MinInt} {
			b := newBench(t, 4, 1, nil, noise)
			b.refused(t, call, n, api.ErrArg)
			b.pin(t, 0)
			b.off()
			b.refused(t, call, n, api.ErrArg) // ahead of ErrPinned
			b.refused(t, call, 1, api.ErrPinned)
			b.d.On()
			b.refused(t, call, 1, api.ErrPinned) // ahead of ErrPage
			b.p.Unpin(0)
			b.put(t, 0, 2)
			b.refuse(0, api.FFail)
			b.refused(t, call, n, api.ErrArg)
			b.refused(t, call, 1, api.ErrDisk) // ahead of ErrPage
			b.refused(t, call, n, api.ErrDead) // ahead of ErrArg
			b.refused(t, call, 1, api.ErrDead)
		}
		b := newBench(t, 4, 1, nil, noise)
		b.pin(t, 0)
		b.put(t, 0, 2)
		b.refuse(0, api.FFail)
		b.p.Flush()
		b.refused(t, call, 1, api.ErrDead) // ahead of ErrPinned
	}
}

// P10.1: a page that is dirty and has to leave while the power is off: the step is refused, and the pool is dead.
func TestLeavingWithoutPower(t *testing.T) {
	for _, call := range callNames {
		b := newBench(t, 4, 1, nil, noise)
		b.put(t, 0, 2)
		b.l.Flush()
		b.off()
		b.refused(t, call, 1, api.ErrPower)
		b.d.On()
		b.refused(t, call, 0, api.ErrDead)
	}
}

// dies lets each step of what is done be refused in each way, and tells whether the pool is dead behind it.
func dies(t *testing.T, name string, steps int, do func(b *bench) api.Errno) {
	t.Helper()
	for after := range steps + 1 {
		for kind, want := range map[int]api.Errno{api.FFail: api.ErrDisk, api.FBefore: api.ErrPower, api.FBehind: api.ErrPower} {
			b := newBench(t, 6, 2)
			b.put(t, 3, 1)
			b.put(t, 2, 2)
			b.pin(t, 3)
			before := b.d.Steps()
			b.refuse(after, kind)
			e := do(b)
			if after == steps {
				if e != api.OK || b.d.Steps() != before+steps {
					t.Errorf("%s = %d, %d steps, want %d", name, e, b.d.Steps()-before, steps)
				}
				continue
			}
			if e != want || b.d.Steps() != before+after+1 {
				t.Errorf("%s, step %d, fate %d: %d, %d steps", name, after+1, kind, e, b.d.Steps()-before)
			}
			stays(t, name, b)
		}
	}
}

// stays tells whether a dead pool stays dead, makes no step, and goes on to tell what it has.
func stays(t *testing.T, name string, b *bench) {
	t.Helper()
	steps := b.d.Steps()
	for range 2 {
		for _, call := range callNames {
			for _, n := range []int{0, 2, 3} {
				b.refused(t, call, n, api.ErrDead)
			}
		}
		if e := b.p.Flush(); e != api.ErrDead {
			t.Errorf("%s: Flush of a dead pool = %d", name, e)
		}
		b.d.On()
		b.d.Plan()
	}
	if b.d.Steps() != steps {
		t.Errorf("%s: a dead pool has made %d steps", name, b.d.Steps()-steps)
	}
	if got := b.p.Pins(); !slices.Equal(got, []int{3}) || b.p.Frames() != 2 {
		t.Errorf("%s: a dead pool has pins %v, %d frames", name, got, b.p.Frames())
	}
	if e := b.p.Unpin(2); e != api.ErrLoose {
		t.Errorf("%s: Unpin(2) = %d", name, e)
	}
	if e := b.p.Unpin(3); e != api.OK || len(b.p.Pins()) != 0 {
		t.Errorf("%s: Unpin(3) = %d", name, e)
	}
}

// P10.1: behind a step that was refused the pool is dead: the log's steps, and its own.
func TestStepsThatAreRefused(t *testing.T) {
	for _, name := range callNames {
		dies(t, name, 3, func(b *bench) api.Errno {
			e, _ := b.asks()[name](0)
			return e
		})
	}
	// Two for the log, pages 2 and 3, and the sync.
	dies(t, "Flush", 5, func(b *bench) api.Errno { return b.p.Flush() })
}

// P10.1: a log that is dead can't be flushed: a page that needs it can't be written, and the pool is dead too.
func TestDeadLog(t *testing.T) {
	b := newBench(t, 4, 2)
	b.put(t, 0, 1)
	b.refuse(0, api.FFail)
	if e := b.l.Flush(); e != api.ErrDisk {
		t.Fatalf("the log's Flush = %d", e)
	}
	b.get(t, 1) // the pool hasn't met it
	at := b.l.Safe() - 1
	if e := b.p.Put(1, some(2), at); e != api.OK {
		t.Fatalf("Put = %d", e)
	}
	steps := b.d.Steps()
	b.pin(t, 0)
	b.get(t, 2) // page 1 is written: its record is safe
	if b.d.Steps() != steps+1 || !bytes.Equal(b.sector(1), with(some(2), at)) {
		t.Errorf("%d steps", b.d.Steps()-steps)
	}
	b.p.Unpin(0)
	b.pin(t, 2)
	b.refused(t, "Get", 3, api.ErrDead)
	b.refused(t, "Get", 2, api.ErrDead)
	if b.d.Steps() != steps+1 || b.p.Flush() != api.ErrDead {
		t.Errorf("%d steps", b.d.Steps()-steps)
	}
}
