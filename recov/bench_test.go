package recov_test

import (
	"bytes"
	"slices"
	"testing"

	"skein/api"
	"skein/crc"
	"skein/disk"
	"skein/num"
	"skein/page"
	"skein/recov"
	"skein/wal"
)

// The kinds of the log's records.
const (
	changed = 1
	done    = 2
	givenUp = 3
)

const (
	perSector = 498 // bytes of the log's stream in a sector
	headBytes = 12  // sum and LSN of a page
)

var noise = bytes.Repeat([]byte{0xee}, api.Sector)

// some is one of many pages, never an empty one. Its record takes some ten bytes, or some thousand if it has items.
func some(x int) *page.Page {
	p := page.New(x+1, uint32(7*x))
	if x%4 == 3 {
		for i := range x%7 + 1 {
			p.Insert(i, bytes.Repeat([]byte{byte(x + i)}, x%50+i))
		}
	}
	return p
}

// with is a page's bytes with this LSN.
func with(g *page.Page, lsn int64) []byte {
	q, _ := page.Parse(g.Bytes())
	q.SetLSN(lsn)
	return q.Bytes()
}

// content is all of a page but its LSN and sum.
func content(g *page.Page) string { return string(g.Bytes()[headBytes:]) }

var empty = content(page.New(0, 0))

// open opens the store on a disk.
func open(t *testing.T, d *disk.Disk, log, frames int) *recov.Store {
	t.Helper()
	s, e := recov.Open(d, api.Conf{Log: log, Frames: frames})
	if s == nil || e != api.OK {
		t.Fatalf("Open = %v, %d", s, e)
	}
	return s
}

// fresh is a store on an empty disk.
func fresh(t *testing.T, sectors, log, frames int) (*disk.Disk, *recov.Store) {
	t.Helper()
	d := disk.New(sectors)
	return d, open(t, d, log, frames)
}

// want holds an error against the one that is wanted.
func want(t *testing.T, what string, got, want api.Errno) {
	t.Helper()
	if got != want {
		t.Fatalf("%s = %d, want %d", what, got, want)
	}
}

// read is a page that is there.
func read(t *testing.T, s *recov.Store, n int) *page.Page {
	t.Helper()
	g, e := s.Read(n)
	if g == nil || e != api.OK {
		t.Fatalf("Read(%d) = %v, %d", n, g, e)
	}
	return g
}

// has tells whether a page has this content.
func has(t *testing.T, s *recov.Store, n int, what string) {
	t.Helper()
	if content(read(t, s, n)) != what {
		t.Fatalf("page %d has another content", n)
	}
}

// unit does a unit that writes these pages, in their order, and ends it.
func unit(t *testing.T, s *recov.Store, end func() api.Errno, pages ...any) {
	t.Helper()
	want(t, "Begin", s.Begin(), api.OK)
	for i := 0; i < len(pages); i += 2 {
		want(t, "Write", s.Write(pages[i].(int), pages[i+1].(*page.Page)), api.OK)
	}
	want(t, "the unit's end", end(), api.OK)
}

// refuse lets the step after so many others be refused.
func refuse(d *disk.Disk, after, kind int) {
	d.Plan(api.Fate{Step: d.Steps() + 1 + after, Kind: kind})
}

// off lets the power go without a step of a store.
func off(d *disk.Disk) {
	refuse(d, 0, api.FBefore)
	d.Sync()
}

// records are the log's records that a disk has, and its End.
func records(t *testing.T, d *disk.Disk, log int) ([]api.Record, int64) {
	t.Helper()
	l, rs, e := wal.Open(disk.Load(d.All()), 0, log)
	if e != api.OK {
		t.Fatalf("wal.Open = %d", e)
	}
	return rs, l.End()
}

// body is the body of a change's record.
func body(n, place int, was, is []byte) []byte {
	b := slices.Concat(num.Put(uint64(n)), num.Put(uint64(place)))
	return slices.Concat(b, num.PutText(was), num.PutText(is))
}

// between is the body of the record that makes the n-th page another one.
func between(n int, was, is *page.Page) []byte {
	a, b := was.Bytes(), is.Bytes()
	first, last := -1, -1
	for i := headBytes; i < api.Sector; i++ {
		if a[i] != b[i] {
			if first < 0 {
				first = i
			}
			last = i
		}
	}
	return body(n, first, a[first:last+1], b[first:last+1])
}

// logged is a disk with a log of two sectors or more that has these records, behind which lie the sectors of pages.
func logged(t *testing.T, log int, rs []api.Record, sectors ...[]byte) *disk.Disk {
	t.Helper()
	d := disk.New(log + len(sectors))
	want(t, "Format", wal.Format(d, 0, log), api.OK)
	l, _, e := wal.Open(d, 0, log)
	want(t, "wal.Open", e, api.OK)
	want(t, "Reset", l.Reset(), api.OK)
	for _, r := range rs {
		_, e := l.Append(r.Kind, r.Body)
		want(t, "Append", e, api.OK)
	}
	want(t, "Flush", l.Flush(), api.OK)
	for i, b := range sectors {
		want(t, "disk.Write", d.Write(log+i, b), api.OK)
	}
	want(t, "Sync", d.Sync(), api.OK)
	return d
}

// lsns are the LSNs of records of the first run behind Format, and the log's End.
func lsns(rs []api.Record) []int64 {
	at := int64(2 << 24)
	out := []int64{at}
	for _, r := range rs {
		at += int64(1 + len(num.PutText(r.Body)))
		out = append(out, at)
	}
	return out
}

// sealed gives a sector its sum.
func sealed(b []byte) []byte { return crc.Seal(b[4:]) }
