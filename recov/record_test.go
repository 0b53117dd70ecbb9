package recov_test

import (
	"bytes"
	"math"
	"slices"
	"testing"

	"skein/api"
	"skein/cache"
	"skein/disk"
	"skein/num"
	"skein/page"
	"skein/recov"
	"skein/wal"
)

// sameRecords tells whether records have these kinds and bodies.
func sameRecords(got, want []api.Record) bool {
	return slices.EqualFunc(got, want, func(a, b api.Record) bool { return a.Kind == b.Kind && bytes.Equal(a.Body, b.Body) })
}

// withItem is a page with one item.
func withItem(kind int, extra uint32, item ...byte) *page.Page {
	g := page.New(kind, extra)
	g.Insert(0, item)
	return g
}

// The log's records: of each change the shortest row of bytes that holds all that differ, then the unit's end.
func TestRecords(t *testing.T) {
	d, s := fresh(t, 480, 200, 2)
	blank := page.New(0, 0)
	var wanted []api.Record
	write := func(n int, g *page.Page) {
		t.Helper()
		if was := read(t, s, n); content(was) != content(g) {
			wanted = append(wanted, api.Record{Kind: changed, Body: between(n, was, g)})
		}
		want(t, "Write", s.Write(n, g), api.OK)
		has(t, s, n, content(g))
	}
	end := func(kind int) {
		t.Helper()
		wanted = append(wanted, api.Record{Kind: kind})
		want(t, "the unit's end", map[int]func() api.Errno{done: s.Commit, givenUp: s.Abort}[kind](), api.OK)
	}
	for _, kind := range []int{done, givenUp, done} {
		want(t, "Begin", s.Begin(), api.OK)
		for _, n := range []int{0, 127, 128, 279} {
			for _, g := range []*page.Page{
				page.New(1, 0), page.New(1, 0), page.New(1, 1<<31), page.New(0, 1<<31), page.New(3, 0x01000100), blank, page.New(255, math.MaxUint32),
				withItem(255, math.MaxUint32), withItem(255, math.MaxUint32, 7), withItem(255, math.MaxUint32, 8), withItem(255, math.MaxUint32, 0, 8),
			} {
				write(n, g)
			}
		}
		end(kind)
	}
	want(t, "Begin", s.Begin(), api.OK)
	end(givenUp)
	want(t, "Begin", s.Begin(), api.OK)
	end(done)
	rs, _ := records(t, d, 200)
	if !sameRecords(rs, wanted) {
		t.Errorf("%d records, want %d, or others", len(rs), len(wanted))
	}
}

// The log's records, byte by byte.
func TestRecordsByBytes(t *testing.T) {
	d, s := fresh(t, 150, 8, 2)
	unit(t, s, s.Commit, 130, page.New(5, 0), 130, page.New(5, 0x00030004), 130, page.New(5, 0x00030204))
	unit(t, s, s.Abort, 3, withItem(0, 0, 9))
	unit(t, s, s.Commit)
	row := append([]byte{1, 0xff, 1}, make([]byte, 491)...)
	row = append(row, 9)
	rs, _ := records(t, d, 8)
	if !sameRecords(rs, []api.Record{
		{Kind: changed, Body: []byte{130, 1, 12, 1, 0, 1, 5}},
		{Kind: changed, Body: []byte{130, 1, 13, 3, 0, 0, 0, 3, 4, 0, 3}},
		{Kind: changed, Body: []byte{130, 1, 14, 1, 0, 1, 2}},
		{Kind: done},
		{Kind: changed, Body: slices.Concat([]byte{3, 17, 0xef, 3}, make([]byte, 495), []byte{0xef, 3}, row)},
		{Kind: givenUp},
		{Kind: done},
	}) {
		t.Errorf("other records: %v", rs)
	}
}

// The LSNs of pages: that of the last record, or of the 3 of the unit that was given up; of a unit that was cut off the log's End.
func TestPageLSNs(t *testing.T) {
	for frames := 1; frames <= 4; frames++ {
		d, s := fresh(t, 24, 20, frames)
		lsn := func(n int, wanted int64) {
			t.Helper()
			if g := read(t, s, n); g.LSN() != wanted {
				t.Fatalf("page %d has the LSN %d, want %d", n, g.LSN(), wanted)
			}
		}
		unit(t, s, s.Commit, 0, page.New(1, 0), 1, page.New(2, 0), 0, page.New(3, 0))
		unit(t, s, s.Abort, 1, page.New(4, 0), 2, page.New(5, 0), 1, page.New(6, 0))
		unit(t, s, s.Commit, 0, page.New(3, 0), 3, page.New(8, 0))
		rs, _ := records(t, d, 20)
		lsn(0, rs[2].LSN)
		lsn(1, rs[7].LSN)
		lsn(2, rs[7].LSN)
		lsn(3, rs[8].LSN)
		want(t, "Begin", s.Begin(), api.OK)
		want(t, "Write", s.Write(0, page.New(3, 0)), api.OK) // nothing differs
		lsn(0, rs[2].LSN)
		other := page.New(3, 0)
		other.SetLSN(77)
		want(t, "Write", s.Write(0, other), api.OK)
		lsn(0, rs[2].LSN)
		want(t, "Write", s.Write(3, page.New(9, 0)), api.OK)
		for n := range 4 {
			s.Read(n) // with few frames page 3 leaves, and its record is safe
		}
		d.On()
		rs, end := records(t, d, 20)
		s = open(t, d, 20, frames)
		lsn(0, rs[2].LSN)
		lsn(1, rs[7].LSN)
		if frames < 4 {
			if len(rs) != 11 {
				t.Fatalf("%d records", len(rs))
			}
			lsn(3, end)
		} else {
			lsn(3, rs[8].LSN)
		}
		has(t, s, 3, content(page.New(8, 0)))
	}
}

// kinded is a page by its kind alone, with an LSN.
func kinded(kind int, lsn int64) []byte { return with(page.New(kind, 0), lsn) }

// turn is the record that makes a page of one kind another.
func turn(n, was, is int) api.Record {
	return api.Record{Kind: changed, Body: body(n, headBytes, []byte{byte(was)}, []byte{byte(is)})}
}

// P11.2: what Open does again and takes back, for each LSN that a page may have.
func TestOpenByLSN(t *testing.T) {
	two, three := api.Record{Kind: done}, api.Record{Kind: givenUp}
	for name, x := range map[string]struct {
		log   []api.Record
		kinds []int // of the page, while its LSN isn't below those of so many records
		end   []int // its kind behind Open
		lsn   []int // the record whose LSN it has then
	}{
		"done":            {[]api.Record{turn(0, 0, 5), two}, []int{0, 5, 5}, []int{5, 5, 5}, []int{0, 0, 1}},
		"done, thrice":    {[]api.Record{turn(0, 0, 5), turn(0, 5, 6), turn(0, 6, 7), two}, []int{0, 5, 6, 7, 7}, []int{7, 7, 7, 7, 7}, []int{2, 2, 2, 2, 3}},
		"given up":        {[]api.Record{turn(0, 0, 5), turn(0, 5, 6), three}, []int{0, 5, 6, 0}, []int{0, 0, 0, 0}, []int{2, 2, 2, 2}},
		"cut off":         {[]api.Record{turn(0, 0, 5), turn(0, 5, 6)}, []int{0, 5, 6}, []int{0, 0, 0}, []int{2, 2, 2}},
		"given up, done":  {[]api.Record{turn(0, 0, 5), three, turn(0, 0, 6), two}, []int{0, 5, 0, 6, 6}, []int{6, 6, 6, 6, 6}, []int{2, 2, 2, 2, 3}},
		"twice given up":  {[]api.Record{turn(0, 0, 5), turn(0, 5, 6), three, turn(0, 0, 7), two}, []int{0, 5, 6, 0, 7, 7}, []int{7, 7, 7, 7, 7, 7}, []int{3, 3, 3, 3, 3, 4}},
		"done, given up":  {[]api.Record{turn(0, 0, 5), two, turn(0, 5, 6), three, two}, []int{0, 5, 5, 6, 5, 5}, []int{5, 5, 5, 5, 5, 5}, []int{3, 3, 3, 3, 3, 4}},
		"done, cut off":   {[]api.Record{turn(0, 0, 5), two, three, turn(0, 5, 6)}, []int{0, 5, 5, 5, 6}, []int{5, 5, 5, 5, 5}, []int{4, 4, 4, 4, 4}},
		"no unit's":       {[]api.Record{two, three, two}, []int{3, 3, 3, 3}, []int{3, 3, 3, 3}, []int{-1, 0, 1, 2}},
		"of another page": {[]api.Record{turn(1, 0, 5), turn(0, 0, 2), turn(1, 5, 6), three}, []int{0, 0, 2, 2, 0}, []int{0, 0, 0, 0, 0}, []int{3, 3, 3, 3, 3}},
	} {
		at := append([]int64{2<<24 - 1}, lsns(x.log)...)
		for i, kind := range x.kinds {
			for frames := 1; frames <= 3; frames++ {
				d := logged(t, 4, x.log, kinded(kind, at[i]), make([]byte, api.Sector))
				s := open(t, d, 4, frames)
				if g := read(t, s, 0); g.Kind() != x.end[i] || g.LSN() != at[x.lsn[i]+1] {
					t.Errorf("%s: the page's LSN was that of record %d: kind %d, LSN %d", name, i-1, g.Kind(), g.LSN()-2<<24)
				}
				s.Read(1)
				if rs, end := records(t, d, 4); len(rs) != 0 || end != 3<<24 || len(d.Loose()) != 0 {
					t.Errorf("%s: %d records, End %d", name, len(rs), end)
				}
			}
		}
	}
}

// P11.4: a page that has the log's End as its LSN is as it is to be; with an LSN above it Open answers ErrCorrupt.
func TestOpenLSNAboveTheEnd(t *testing.T) {
	for _, log := range [][]api.Record{
		{turn(1, 0, 5), {Kind: done}}, {turn(1, 0, 5), {Kind: givenUp}}, {turn(1, 0, 5)},
	} {
		at := lsns(log)
		end := at[len(at)-1]
		d := logged(t, 4, log, noise, kinded(9, end))
		s := open(t, d, 4, 2)
		if g := read(t, s, 1); g.Kind() != 9 || g.LSN() != end {
			t.Errorf("kind %d, LSN %d", g.Kind(), g.LSN())
		}
		for _, lsn := range []int64{end + 1, end + 1<<24, math.MaxInt64} {
			notOpened(t, logged(t, 4, log, noise, kinded(9, lsn)), 4)
		}
		for _, b := range [][]byte{noise, kinded(9, 5)[:api.Sector-1], append(kinded(9, 5)[:12:12], 8)} {
			d := logged(t, 4, log, noise, b)
			if bytes.Equal(d.All()[5*api.Sector:], kinded(9, 5)) {
				continue // the byte that was left out is 0
			}
			notOpened(t, d, 4)
		}
	}
	open(t, logged(t, 4, []api.Record{{Kind: done}}, noise, kinded(9, 9<<24)), 4, 2) // no record tells of these
}

// notOpened tells whether Open answers ErrCorrupt, and again.
func notOpened(t *testing.T, d *disk.Disk, log int) {
	t.Helper()
	for frames := range 3 {
		if s, e := recov.Open(d, api.Conf{Log: log, Frames: frames}); s != nil || e != api.ErrCorrupt {
			t.Fatalf("Open = %v, %d", s, e)
		}
	}
}

// P11.4: records that aren't as said; of those nothing is done, and no step is made.
func TestRecordsThatAreNone(t *testing.T) {
	was, is := []byte{0, 0, 0}, []byte{1, 0, 2}
	right := body(0, 14, was, is)
	bad := map[string]api.Record{
		"kind 4":             {Kind: 4},
		"kind 4, a change":   {Kind: 4, Body: right},
		"kind 255":           {Kind: 255},
		"a 2 with a body":    {Kind: done, Body: []byte{0}},
		"a 3 with a body":    {Kind: givenUp, Body: right},
		"no page there":      {Kind: changed, Body: body(2, 14, was, is)},
		"far beyond":         {Kind: changed, Body: body(1<<62, 14, was, is)},
		"page -1":            {Kind: changed, Body: body(-1, 14, was, is)},
		"page 0 in two":      {Kind: changed, Body: append([]byte{128, 0}, right[1:]...)},
		"the LSN":            {Kind: changed, Body: body(0, 11, was, is)},
		"place 0":            {Kind: changed, Body: body(0, 0, was, is)},
		"beyond the sector":  {Kind: changed, Body: body(0, api.Sector-2, was, is)},
		"behind the sector":  {Kind: changed, Body: body(0, api.Sector, was, is)},
		"nothing there":      {Kind: changed, Body: body(0, api.Sector, nil, nil)},
		"far behind":         {Kind: changed, Body: body(0, 1<<62, was, is)},
		"place -1":           {Kind: changed, Body: body(0, -1, was, is)},
		"nothing differs":    {Kind: changed, Body: body(0, 14, nil, nil)},
		"the same":           {Kind: changed, Body: body(0, 14, was, was)},
		"the first the same": {Kind: changed, Body: body(0, 14, was, []byte{0, 1, 1})},
		"the last the same":  {Kind: changed, Body: body(0, 14, was, []byte{1, 1, 0})},
		"more bytes were":    {Kind: changed, Body: body(0, 14, was, is[:2])},
		"more bytes are":     {Kind: changed, Body: body(0, 14, was[:2], is)},
		"bytes behind":       {Kind: changed, Body: append(slices.Clone(right), 0)},
		"a whole sector":     {Kind: changed, Body: body(0, 0, bytes.Repeat(was[:1], api.Sector), bytes.Repeat(is[:1], api.Sector))},
	}
	for i := range right {
		bad["so many bytes: "+string(rune('0'+i))] = api.Record{Kind: changed, Body: right[:i]}
	}
	empty := make([]byte, api.Sector)
	for name, r := range bad {
		for _, log := range [][]api.Record{{r}, {turn(1, 0, 3), {Kind: done}, r, {Kind: done}}, {turn(1, 0, 3), r}} {
			d := logged(t, 4, log, empty, empty)
			before, steps := d.All(), d.Steps()
			t.Run(name, func(t *testing.T) { notOpened(t, d, 4) })
			if !bytes.Equal(d.All(), before) || d.Steps() != steps {
				t.Errorf("%s: Open has written", name)
			}
		}
	}
	open(t, logged(t, 4, []api.Record{{Kind: changed, Body: right}}, empty, empty), 4, 2)
}

// P11.4: rows at the bounds of the content.
func TestRowsAtTheBounds(t *testing.T) {
	full := page.New(9, math.MaxUint32)
	full.Insert(0, bytes.Repeat([]byte{1}, 200))
	full.Insert(1, bytes.Repeat([]byte{1}, 200))
	full.Insert(2, bytes.Repeat([]byte{1}, full.Room()))
	other := page.New(10, math.MaxUint32)
	for range 3 {
		other.Insert(0, nil)
	}
	for i, n := range []int{200, 200, 88} {
		other.Replace(i, bytes.Repeat([]byte{2}, n))
	}
	for _, g := range []*page.Page{full, other} {
		log := []api.Record{{Kind: changed, Body: between(1, page.New(0, 0), full)}, {Kind: changed, Body: between(1, full, other)}, {Kind: done}}
		if g == full {
			log[1] = api.Record{Kind: done}
		}
		s := open(t, logged(t, 8, log[:len(log)], noise, make([]byte, api.Sector)), 8, 1)
		has(t, s, 1, content(g))
	}
}

// P11.4: what comes of a page is none: done again, and taken back.
func TestNoPageComesOfIt(t *testing.T) {
	slots := api.Record{Kind: changed, Body: body(0, 17, []byte{0}, []byte{101})}                // so many slots there may not be
	behind := api.Record{Kind: changed, Body: body(0, api.Sector-1, []byte{0}, []byte{1})}       // a byte that no item has
	back := api.Record{Kind: changed, Body: body(0, 300, []byte{3}, []byte{0})}                  // likewise, when it is taken back
	number := api.Record{Kind: changed, Body: slices.Concat(num.Put(0), []byte{17, 1, 1, 1, 0})} // one slot was there: it would lie at 0
	empty := make([]byte, api.Sector)
	for name, log := range map[string][]api.Record{
		"slots": {slots, {Kind: done}}, "behind": {behind}, "given up": {back, {Kind: givenUp}}, "cut off": {turn(1, 0, 3), back}, "a slot": {number},
	} {
		t.Run(name, func(t *testing.T) { notOpened(t, logged(t, 4, log, empty, empty), 4) })
	}
	for _, log := range [][]api.Record{{back, {Kind: done}}, {number, {Kind: done}}} { // and not taken back
		open(t, logged(t, 4, log, empty, empty), 4, 2)
	}
}

// reset is a disk whose log has a run of this number, or the next one, and no records.
func reset(t *testing.T, run int64, sectors ...[]byte) *disk.Disk {
	t.Helper()
	d := logged(t, 1, []api.Record{turn(0, 0, 3), {Kind: done}}, sectors...)
	l, _, e := wal.Open(d, 0, 1)
	want(t, "wal.Open", e, api.OK)
	if l.End() < 1<<24 {
		t.Fatal("no run")
	}
	d.Write(0, runSector(run))
	d.Sync()
	return d
}

// runSector is an empty log's first sector.
func runSector(run int64) []byte {
	b := make([]byte, api.Sector)
	for i := range 8 {
		b[4+i] = byte(run >> (8 * i))
	}
	return sealed(b)
}

// P11.4: a log that has no run left; one that has its last.
func TestNoRunLeft(t *testing.T) {
	const last = 1 << 38
	d := reset(t, last, make([]byte, api.Sector))
	notOpened(t, d, 1)
	d = reset(t, last-1, make([]byte, api.Sector))
	s := open(t, d, 1, 1)
	if _, end := records(t, d, 1); end != last<<24 {
		t.Errorf("End %d", end)
	}
	unit(t, s, s.Commit, 0, some(5))
	notOpened(t, d, 1)
	for range 200 { // no checkpoint goes well any more, but what is done is right
		if s.Checkpoint() == api.OK {
			t.Fatal("Checkpoint without a run")
		}
		if s.Begin() != api.OK {
			break
		}
		want(t, "Abort", s.Abort(), api.OK)
	}
	if s.Active() || s.Dead() {
		t.Error("active or dead")
	}
	has(t, s, 0, content(some(5)))
}

// P11.2: pages that the pool wrote itself, without a checkpoint, are found again: what the disk has isn't done twice.
func TestOpenBehindThePool(t *testing.T) {
	d := logged(t, 4, []api.Record{turn(0, 0, 5), turn(0, 5, 6), {Kind: done}}, make([]byte, api.Sector))
	l, rs, e := wal.Open(d, 0, 4)
	want(t, "wal.Open", e, api.OK)
	p := cache.New(d, l, 4, 1, 1)
	want(t, "Put", p.Put(0, page.New(5, 0), rs[0].LSN), api.OK)
	want(t, "Flush", p.Flush(), api.OK)
	s := open(t, d, 4, 1)
	if g := read(t, s, 0); g.Kind() != 6 || g.LSN() != rs[1].LSN {
		t.Errorf("kind %d, LSN %d", g.Kind(), g.LSN())
	}
}
