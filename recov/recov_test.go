package recov_test

import (
	"bytes"
	"math"
	"testing"

	"skein/api"
	"skein/disk"
	"skein/page"
	"skein/recov"
	"skein/wal"
)

func TestExamples(t *testing.T) {
	d, s := fresh(t, 20, 6, 3)
	if s.Pages() != 14 {
		t.Errorf("Pages %d", s.Pages())
	}
	unit(t, s, s.Abort, 3, some(5))
	has(t, s, 3, empty)
	unit(t, s, s.Commit, 3, some(5))
	d.On()
	s = open(t, d, 6, 3)
	has(t, s, 3, content(some(5)))
	want(t, "Begin", s.Begin(), api.OK)
	want(t, "Write", s.Write(3, some(7)), api.OK)
	d.On()
	s = open(t, d, 6, 3)
	has(t, s, 3, content(some(5)))
}

// P11.1: the log has at least one sector, and the pages too.
func TestOpenArguments(t *testing.T) {
	for _, x := range [][2]int{{0, 1}, {0, 0}, {1, 1}, {9, 0}, {9, -1}, {9, 9}, {9, 10}, {9, math.MaxInt}, {9, math.MinInt}} {
		d := disk.New(x[0])
		for range 2 { // ErrArg is ahead of ErrPower
			if s, e := recov.Open(d, api.Conf{Sectors: 9, Log: x[1], Frames: 2}); s != nil || e != api.ErrArg {
				t.Errorf("Open of %d sectors, Log %d = %v, %d", x[0], x[1], s, e)
			}
			if d.Steps() > 1 {
				t.Errorf("%d steps", d.Steps())
			}
			off(d)
		}
	}
	for _, x := range [][2]int{{2, 1}, {9, 1}, {9, 8}, {9, 4}} {
		for _, frames := range []int{math.MinInt, -1, 0, 1, 2, api.MaxFrames, api.MaxFrames + 1, math.MaxInt} {
			s, e := recov.Open(disk.New(x[0]), api.Conf{Sectors: -7, Log: x[1], Frames: frames, Seeds: []int{4}})
			if e != api.OK || s.Pages() != x[0]-x[1] || s.Active() || s.Dead() {
				t.Fatalf("Open of %d sectors, Log %d, Frames %d = %d", x[0], x[1], frames, e)
			}
			for n := range s.Pages() {
				has(t, s, n, empty)
			}
			unit(t, s, s.Commit, s.Pages()-1, some(4))
			has(t, s, s.Pages()-1, content(some(4)))
		}
	}
}

// P11.1: Open without power.
func TestOpenWithoutPower(t *testing.T) {
	blank := disk.New(9)
	for _, d := range []*disk.Disk{blank, disk.Load(bytes.Repeat(noise, 9)), logged(t, 4, nil, noise)} {
		off(d)
		steps := d.Steps()
		if s, e := recov.Open(d, api.Conf{Log: 4}); s != nil || e != api.ErrPower || d.Steps() != steps {
			t.Errorf("Open without power = %v, %d, %d steps", s, e, d.Steps()-steps)
		}
	}
	blank.On()
	open(t, blank, 4, 1)
}

// P11.1, P11.4: a log is made where the first sector has bytes 0 alone, whatever lies in the others.
func TestOpenMakesTheLog(t *testing.T) {
	d, _ := fresh(t, 9, 4, 2)
	if rs, end := records(t, d, 4); len(rs) != 0 || end != 2<<24 || d.Steps() != 4 || len(d.Loose()) != 0 {
		t.Errorf("behind Open: %d records, End %d, %d steps", len(rs), end, d.Steps())
	}
	for at := range api.Sector { // a byte that isn't 0: no log, and none is made
		all := make([]byte, 9*api.Sector)
		all[at] = 1
		d := disk.Load(all)
		if s, e := recov.Open(d, api.Conf{Log: 4}); s != nil || e != api.ErrCorrupt || d.Steps() != 0 {
			t.Errorf("Open where byte %d is 1 = %v, %d, %d steps", at, s, e, d.Steps())
		}
	}
	for run := range int64(4) { // a run of the log that was there, in its second sector
		d := disk.New(9)
		for i := range run {
			if i == 0 {
				want(t, "Format", wal.Format(d, 1, 1), api.OK)
				continue
			}
			l, _, _ := wal.Open(d, 1, 1)
			want(t, "Reset", l.Reset(), api.OK)
		}
		d.Write(3, noise)
		d.Write(4, with(some(3), 3<<24+7))
		s := open(t, d, 4, 2)
		if _, end := records(t, d, 4); end != max(run+1, 2)<<24 {
			t.Errorf("End %d", end)
		}
		if run < 3 {
			readFails(t, s, 0, api.ErrCorrupt)
		} else {
			has(t, s, 0, content(some(3)))
		}
		has(t, s, 1, empty)
	}
}

// P11.1: each Open resets the log, and makes no other step if the log has no records.
func TestOpenResets(t *testing.T) {
	d, _ := fresh(t, 9, 4, 2)
	for i := range int64(3) {
		steps := d.Steps()
		open(t, d, 4, 2)
		if rs, end := records(t, d, 4); len(rs) != 0 || end != (3+i)<<24 || d.Steps() != steps+2 {
			t.Errorf("Open %d: %d records, End %d, %d steps", i, len(rs), end, d.Steps()-steps)
		}
	}
}

var noPages = []int{-1, 5, 6, math.MaxInt, math.MinInt}

// P11.1: which pages there are, and what of them is none.
func TestReadErrors(t *testing.T) {
	const end = 3 << 24
	other := page.New(0, 0)
	for lsn, wanted := range map[int64]api.Errno{
		0: api.OK, 1: api.OK, end - 1: api.OK, end: api.ErrCorrupt, end + 1: api.ErrCorrupt, end + 1<<24: api.ErrCorrupt, math.MaxInt64: api.ErrCorrupt,
	} {
		d := logged(t, 4, nil, noise, with(some(3), lsn), make([]byte, api.Sector), with(other, lsn), some(3).Bytes()[:api.Sector-1])
		s := open(t, d, 4, 2)
		want(t, "Begin", s.Begin(), api.OK)
		for range 2 {
			for _, n := range noPages {
				readFails(t, s, n, api.ErrArg)
			}
			readFails(t, s, 0, api.ErrCorrupt)
			readFails(t, s, 4, api.ErrCorrupt)
			if wanted == api.OK {
				has(t, s, 1, content(some(3)))
				has(t, s, 3, empty)
			} else {
				readFails(t, s, 1, wanted)
				readFails(t, s, 3, wanted)
			}
			has(t, s, 2, empty)
		}
		if s.Dead() || !s.Active() {
			t.Fatal("dead, or the unit is over")
		}
		want(t, "Write", s.Write(2, some(1)), api.OK)
		want(t, "Commit", s.Commit(), api.OK)
		has(t, s, 2, content(some(1)))
	}
}

// readFails tells whether Read and, while a unit is under way, Write answer an error.
func readFails(t *testing.T, s *recov.Store, n int, e api.Errno) {
	t.Helper()
	if g, got := s.Read(n); g != nil || got != e {
		t.Fatalf("Read(%d) = %v, %d, want %d", n, g, got, e)
	}
	if s.Active() {
		want(t, "Write", s.Write(n, some(2)), e)
	}
}

// P11.1: a page whose LSN isn't below the log's End is one as soon as it is below.
func TestLSNAtTheEnd(t *testing.T) {
	const end = 3 << 24
	s := open(t, logged(t, 4, nil, with(some(3), end+3)), 4, 2)
	unit(t, s, s.Commit)
	readFails(t, s, 0, api.ErrCorrupt) // the End is end + 2
	want(t, "Begin", s.Begin(), api.OK)
	readFails(t, s, 0, api.ErrCorrupt)
	want(t, "Abort", s.Abort(), api.OK)
	has(t, s, 0, content(some(3)))
	unit(t, s, s.Abort, 0, some(4))
	has(t, s, 0, content(some(3)))
	unit(t, s, s.Commit, 0, some(4))
	has(t, s, 0, content(some(4)))
}

// P11.1: a page that is none is told ahead of the error of a step that another page needs to leave, and no step is made for it.
func TestNoPageAheadOfAStep(t *testing.T) {
	for kind, wanted := range map[int]api.Errno{api.FFail: api.ErrDisk, api.FBefore: api.ErrPower, api.FBehind: api.ErrPower} {
		d := logged(t, 4, nil, make([]byte, api.Sector), noise, with(some(3), 9<<24), make([]byte, api.Sector))
		s := open(t, d, 4, 1)
		want(t, "Begin", s.Begin(), api.OK)
		want(t, "Write", s.Write(0, some(6)), api.OK)
		refuse(d, 0, kind)
		steps := d.Steps()
		for _, n := range noPages {
			readFails(t, s, n, api.ErrArg)
		}
		readFails(t, s, 1, api.ErrCorrupt)
		readFails(t, s, 2, api.ErrCorrupt)
		has(t, s, 0, content(some(6)))
		if s.Dead() || d.Steps() != steps {
			t.Fatalf("dead, or %d steps", d.Steps()-steps)
		}
		if g, e := s.Read(3); g != nil || e != wanted || !s.Dead() {
			t.Fatalf("Read(3) = %v, %d", g, e)
		}
	}
}

// P11.1: whose turn it is, in every order of Begin, Commit, Abort, Checkpoint.
func TestTurns(t *testing.T) {
	_, s := fresh(t, 9, 4, 2)
	for range 3 {
		for _, end := range []func() api.Errno{s.Commit, s.Abort} {
			if s.Active() {
				t.Fatal("active")
			}
			want(t, "Commit", s.Commit(), api.ErrIdle)
			want(t, "Abort", s.Abort(), api.ErrIdle)
			want(t, "Write", s.Write(0, some(1)), api.ErrIdle)
			for _, n := range noPages {
				want(t, "Write", s.Write(n, some(1)), api.ErrIdle) // ahead of ErrArg
			}
			want(t, "Checkpoint", s.Checkpoint(), api.OK)
			want(t, "Begin", s.Begin(), api.OK)
			for range 2 {
				want(t, "Begin", s.Begin(), api.ErrActive)
				want(t, "Checkpoint", s.Checkpoint(), api.ErrActive)
				if !s.Active() || s.Dead() {
					t.Fatal("not active, or dead")
				}
			}
			want(t, "Write", s.Write(0, some(1)), api.OK)
			want(t, "the unit's end", end(), api.OK)
		}
	}
}

// P11.1: a unit sees its own writes; given up, all pages are as they were, however often each was written.
func TestAbort(t *testing.T) {
	for frames := 1; frames <= 4; frames++ {
		d, s := fresh(t, 26, 20, frames)
		unit(t, s, s.Commit, 0, some(1), 1, some(2), 2, some(3))
		want(t, "Begin", s.Begin(), api.OK)
		for i, n := range []int{0, 1, 0, 4, 2, 0, 1, 4, 3} {
			want(t, "Write", s.Write(n, some(10+i)), api.OK)
			has(t, s, n, content(some(10+i)))
		}
		want(t, "Write", s.Write(1, some(2)), api.OK) // as it was ahead of the unit
		want(t, "Write", s.Write(4, page.New(0, 0)), api.OK)
		want(t, "Abort", s.Abort(), api.OK)
		for range 2 {
			for n, x := range []string{content(some(1)), content(some(2)), content(some(3)), empty, empty, empty} {
				has(t, s, n, x)
			}
			want(t, "Checkpoint", s.Checkpoint(), api.OK)
			d.On()
			s = open(t, d, 20, frames)
		}
	}
}

// P11.2: a page that was written twice is taken back at one go: with one frame, other pages between, and a crash at each step.
func TestAbortIsWhole(t *testing.T) {
	for frames := 1; frames <= 3; frames++ {
		for after := 0; ; after++ {
			d, s := fresh(t, 26, 20, frames)
			unit(t, s, s.Commit, 0, some(1), 1, some(2), 2, some(3))
			want(t, "Begin", s.Begin(), api.OK)
			for i, n := range []int{0, 1, 2, 0, 1, 2, 0} {
				want(t, "Write", s.Write(n, some(10+i)), api.OK)
			}
			refuse(d, after, api.FBehind)
			over := s.Abort() == api.OK
			d.Plan()
			d.On(d.Loose()...)
			s = open(t, d, 20, frames)
			for n := range 3 {
				has(t, s, n, content(some(1+n)))
			}
			if over {
				break
			}
		}
	}
}

// stepped are the calls that may make steps, each with what is done ahead of it on a store with one frame.
func stepped() map[string][2]func(t *testing.T, s *recov.Store) api.Errno {
	begun := func(pages int) func(t *testing.T, s *recov.Store) api.Errno {
		return func(t *testing.T, s *recov.Store) api.Errno {
			want(t, "Begin", s.Begin(), api.OK)
			for n := range pages {
				want(t, "Write", s.Write(n, some(6+n)), api.OK)
			}
			return api.OK
		}
	}
	over := func(pages int) func(t *testing.T, s *recov.Store) api.Errno {
		return func(t *testing.T, s *recov.Store) api.Errno {
			begun(pages)(t, s)
			return s.Commit()
		}
	}
	half := func(t *testing.T, s *recov.Store) api.Errno {
		unit(t, s, s.Commit, 0, big())
		want(t, "Checkpoint", s.Checkpoint(), api.OK)
		want(t, "Begin", s.Begin(), api.OK)
		spend(t, s, 1000)
		return s.Commit()
	}
	return map[string][2]func(t *testing.T, s *recov.Store) api.Errno{
		"Read":       {begun(1), func(t *testing.T, s *recov.Store) api.Errno { _, e := s.Read(3); return e }},
		"Write":      {begun(1), func(t *testing.T, s *recov.Store) api.Errno { return s.Write(3, some(5)) }},
		"Commit":     {begun(2), func(t *testing.T, s *recov.Store) api.Errno { return s.Commit() }},
		"Abort":      {begun(2), func(t *testing.T, s *recov.Store) api.Errno { return s.Abort() }},
		"Checkpoint": {over(2), func(t *testing.T, s *recov.Store) api.Errno { return s.Checkpoint() }},
		"Begin":      {half, func(t *testing.T, s *recov.Store) api.Errno { return s.Begin() }},
	}
}

// P11.1: each step of each call is refused in each way: its error is answered, no step more is made, and the store is dead. The unit under way stays it, and none has begun.
func TestDead(t *testing.T) {
	for name, call := range stepped() {
		d, s := fresh(t, 8, 4, 1)
		want(t, "what is done ahead", call[0](t, s), api.OK)
		steps := d.Steps()
		want(t, name, call[1](t, s), api.OK)
		steps = d.Steps() - steps
		if steps < 2 {
			t.Errorf("%s: %d steps", name, steps)
		}
		for after := range steps {
			for kind, wanted := range map[int]api.Errno{api.FFail: api.ErrDisk, api.FBefore: api.ErrPower, api.FBehind: api.ErrPower} {
				d, s := fresh(t, 8, 4, 1)
				call[0](t, s)
				before, active := d.Steps(), s.Active()
				refuse(d, after, kind)
				want(t, name, call[1](t, s), wanted)
				if d.Steps() != before+after+1 || s.Active() != active || !s.Dead() {
					t.Errorf("%s, step %d: %d steps, Active %v, Dead %v", name, after+1, d.Steps()-before, s.Active(), s.Dead())
				}
				staysDead(t, d, s)
			}
		}
	}
}

// staysDead tells whether a store answers ErrDead to all calls, power or not, and makes no step.
func staysDead(t *testing.T, d *disk.Disk, s *recov.Store) {
	t.Helper()
	steps, active := d.Steps(), s.Active()
	for range 2 {
		for _, n := range append([]int{0, 3}, noPages...) {
			if g, e := s.Read(n); g != nil || e != api.ErrDead {
				t.Errorf("Read of a dead store = %v, %d", g, e)
			}
			want(t, "Write", s.Write(n, some(1)), api.ErrDead)
		}
		want(t, "Begin", s.Begin(), api.ErrDead)
		want(t, "Commit", s.Commit(), api.ErrDead)
		want(t, "Abort", s.Abort(), api.ErrDead)
		want(t, "Checkpoint", s.Checkpoint(), api.ErrDead)
		if !s.Dead() || s.Active() != active || s.Pages() != 4 || d.Steps() != steps {
			t.Errorf("Dead %v, Active %v, Pages %d, %d steps", s.Dead(), s.Active(), s.Pages(), d.Steps()-steps)
		}
		d.Plan()
		d.On()
	}
	s = open(t, d, 4, 1)
	if s.Dead() || s.Active() {
		t.Error("a store that was opened anew is dead or active")
	}
}

// P11.1: without power nothing is read; the disk is to be opened anew.
func TestWithoutPower(t *testing.T) {
	d, s := fresh(t, 8, 4, 2)
	unit(t, s, s.Commit, 2, some(4))
	off(d)
	if g, e := s.Read(1); g != nil || e != api.ErrPower || !s.Dead() {
		t.Errorf("Read without power = %v, %d", g, e)
	}
	d.On()
	if _, e := s.Read(1); e != api.ErrDead {
		t.Errorf("Read = %d", e)
	}
	has(t, open(t, d, 4, 2), 2, content(some(4)))
}

// P11.1: behind a checkpoint the log has no records, and all pages are safe.
func TestCheckpoint(t *testing.T) {
	d, s := fresh(t, 12, 6, 4)
	unit(t, s, s.Commit, 0, some(1), 4, some(2))
	unit(t, s, s.Abort, 1, some(3))
	_, before := records(t, d, 6)
	want(t, "Checkpoint", s.Checkpoint(), api.OK)
	rs, end := records(t, d, 6)
	if len(rs) != 0 || end>>24 != before>>24+1 || len(d.Loose()) != 0 {
		t.Errorf("%d records, End %d, pending %v", len(rs), end, d.Loose())
	}
	all := d.Safe()
	for n, x := range []string{content(some(1)), empty, empty, empty, content(some(2)), empty} {
		b := all[(6+n)*api.Sector:][:api.Sector]
		if x == empty && bytes.Count(b, []byte{0}) == api.Sector {
			continue
		}
		if g, e := page.Parse(b); e != api.OK || content(g) != x || g.LSN() >= end {
			t.Errorf("page %d on the disk = %d", n, e)
		}
	}
}

// big is a page with an item of 200 bytes, which spend changes.
func big() *page.Page {
	g := page.New(1, 0)
	g.Insert(0, make([]byte, api.MaxItem))
	return g
}

// spend lets the log's stream grow by just so many bytes (at least 8, and 17 if they are odd) by changes of page 0, which big has made.
func spend(t *testing.T, s *recov.Store, bytes int) {
	t.Helper()
	if bytes%2 == 1 {
		writeItem(t, s, 1) // its place takes two bytes: nine
		bytes -= 9
	}
	for bytes >= 144 {
		take := min(bytes, 260)
		if left := bytes - take; left > 0 && left < 8 {
			take -= 8
		}
		writeItem(t, s, (take-8)/2)
		bytes -= take
	}
	for bytes > 0 {
		take := 8
		if bytes < 16 {
			take = bytes
		}
		writeHead(t, s, (take-6)/2)
		bytes -= take
	}
}

// writeItem changes so many bytes of page 0's item.
func writeItem(t *testing.T, s *recov.Store, bytes int) {
	t.Helper()
	g := read(t, s, 0)
	item, _ := g.Item(0)
	for i := range bytes {
		item[i] ^= 0xff
	}
	g.Replace(0, item)
	want(t, "Write", s.Write(0, g), api.OK)
}

// writeHead changes page 0's kind and, if it is to be more bytes than one, the last one of so many from there on.
func writeHead(t *testing.T, s *recov.Store, bytes int) {
	t.Helper()
	g := read(t, s, 0)
	item, _ := g.Item(0)
	x := g.Extra()
	if bytes > 1 {
		x ^= 1 << (8 * (bytes - 2))
	}
	g = page.New(g.Kind()^1, x)
	g.Insert(0, item)
	want(t, "Write", s.Write(0, g), api.OK)
}

// filled is a store with a log of so many sectors, whose stream has so many bytes, and a unit under way whose changes are the last of them.
func filled(t *testing.T, log, bytes int) (*disk.Disk, *recov.Store) {
	t.Helper()
	d, s := fresh(t, log+3, log, 2)
	unit(t, s, s.Commit, 0, big())
	want(t, "Checkpoint", s.Checkpoint(), api.OK)
	want(t, "Begin", s.Begin(), api.OK)
	spend(t, s, bytes)
	return d, s
}

// P11.1: Begin makes a checkpoint just if the log has room for less than half of what it can take.
func TestBeginAtHalf(t *testing.T) {
	for log := 1; log <= 3; log++ {
		half := log * perSector / 2
		for _, used := range []int{half - 7, half - 2, half - 1, half, half + 1, half + 2, half + 20} {
			d, s := filled(t, log, used-2)
			want(t, "Commit", s.Commit(), api.OK)
			if _, end := records(t, d, log); end != 3<<24+int64(used) {
				t.Fatalf("End %d, want %d bytes", end, used)
			}
			steps := d.Steps()
			want(t, "Begin", s.Begin(), api.OK)
			_, end := records(t, d, log)
			if check := used > half; (end == 4<<24) != check || (d.Steps() > steps) != check {
				t.Errorf("Log %d, %d bytes: End %d, %d steps", log, used, end, d.Steps()-steps)
			}
		}
	}
}

// P11.1: behind each record of a change there is room for two bytes more, the record of the unit's end; else ErrLogFull, and the unit goes on.
func TestLogFull(t *testing.T) {
	for log := 1; log <= 3; log++ {
		full := log * perSector
		for used := full - 14; used <= full-2; used++ {
			for _, name := range []string{"Commit", "Abort"} {
				d, s := filled(t, log, used)
				before := content(read(t, s, 0))
				wanted := api.OK
				if used+8+2 > full {
					wanted = api.ErrLogFull
				}
				staysIfFull(t, s, wanted, before)
				end := map[string]func() api.Errno{"Commit": s.Commit, "Abort": s.Abort}[name]
				want(t, name, end(), api.OK)
				now := content(read(t, s, 0))
				d.On()
				s = open(t, d, log, 2)
				if name == "Abort" {
					now = content(big())
				}
				has(t, s, 0, now)
			}
		}
	}
}

// staysIfFull writes a change of eight bytes, and tells whether it is answered as is wanted; if the log is full, nothing has changed.
func staysIfFull(t *testing.T, s *recov.Store, wanted api.Errno, before string) {
	t.Helper()
	g := read(t, s, 0)
	item, _ := g.Item(0)
	next := page.New(g.Kind()+2, g.Extra())
	next.Insert(0, item)
	want(t, "Write", s.Write(0, next), wanted)
	if wanted == api.OK {
		has(t, s, 0, content(next))
		return
	}
	for range 2 {
		has(t, s, 0, before)
		want(t, "Write", s.Write(0, next), api.ErrLogFull)
		want(t, "Write of what is there", s.Write(0, g), api.OK)
		want(t, "Write", s.Write(2, page.New(0, 0)), api.OK)
		want(t, "Write", s.Write(3, next), api.ErrArg) // ahead of ErrLogFull
		if !s.Active() || s.Dead() {
			t.Fatal("the unit is over, or the store is dead")
		}
	}
}
