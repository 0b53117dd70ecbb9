package wal_test

import (
	"bytes"
	"encoding/binary"
	"fmt"
	"math"
	"math/rand/v2"
	"reflect"
	"slices"
	"testing"

	"skein/api"
	"skein/crc"
	"skein/disk"
	"skein/wal"
)

const (
	perSector = 498
	lastRun   = 1 << 38
)

// logSector is a log sector, written by the words of the document alone; used may say another number than there are bytes.
func logSector(run uint64, used int, part []byte) []byte {
	b := make([]byte, api.Sector)
	binary.LittleEndian.PutUint64(b[4:], run)
	binary.LittleEndian.PutUint16(b[12:], uint16(used))
	copy(b[14:], part)
	binary.LittleEndian.PutUint32(b, crc.Sum(b[4:]))
	return b
}

// rec is a record's bytes in the stream.
func rec(kind byte, body []byte) []byte {
	out := []byte{kind}
	if len(body) >= 128 {
		out = append(out, byte(len(body))|128, byte(len(body)>>7))
	} else {
		out = append(out, byte(len(body)))
	}
	return append(out, body...)
}

// layout is a disk's bytes: a stream of a run, in as many sectors as it needs, from the first sector of the disk on.
func layout(run uint64, stream []byte, sectors int) []byte {
	var out []byte
	for i := 0; i == 0 || i < len(stream); i += perSector {
		part := stream[i:min(i+perSector, len(stream))]
		out = append(out, logSector(run, len(part), part)...)
	}
	return append(out, make([]byte, sectors*api.Sector-len(out))...)
}

// told is what the document says of a log's bytes, read in the plainest way: the run, the records, where they end, the greatest run.
type told struct {
	ok       bool
	run      int64
	records  []api.Record
	length   int
	greatest int64
}

func part(b []byte) (uint64, []byte, bool) {
	run := binary.LittleEndian.Uint64(b[4:])
	used := int(binary.LittleEndian.Uint16(b[12:]))
	if run < 1 || run > lastRun || used > perSector {
		return 0, nil, false
	}
	p := b[14 : 14+used]
	return run, p, bytes.Equal(b, logSector(run, used, p))
}

func read(all []byte, first, count int) told {
	var x told
	var stream []byte
	whole := true
	for i := first; i < first+count; i++ {
		run, p, ok := part(all[i*api.Sector : (i+1)*api.Sector])
		if i == first {
			if !ok {
				return told{}
			}
			x.ok, x.run = true, int64(run)
		}
		if ok {
			x.greatest = max(x.greatest, int64(run))
		}
		if !ok || int64(run) != x.run {
			whole = false
		}
		if whole {
			stream = append(stream, p...)
			whole = len(p) == perSector
		}
	}
	for len(stream) >= 2 && stream[0] != 0 {
		n, head := int(stream[1]), 2
		if n >= 128 {
			if len(stream) < 3 || stream[2] >= 128 || stream[2] == 0 {
				break
			}
			n, head = n-128+int(stream[2])<<7, 3
		}
		if n > 1200 || len(stream) < head+n {
			break
		}
		x.records = append(x.records, api.Record{LSN: x.run<<24 + int64(x.length), Kind: int(stream[0]), Body: stream[head : head+n]})
		x.length += head + n
		stream = stream[head+n:]
	}
	return x
}

func sameRecords(a, b []api.Record) bool {
	return slices.EqualFunc(a, b, func(x, y api.Record) bool {
		return x.LSN == y.LSN && x.Kind == y.Kind && bytes.Equal(x.Body, y.Body)
	})
}

// state is what a log tells at a time.
type state struct {
	end, safe int64
	room      int
	records   []api.Record
}

func stateOf(l *wal.Log) state {
	return state{l.End(), l.Safe(), l.Room(), l.Records(0)}
}

func (a state) same(b state) bool {
	return a.end == b.end && a.safe == b.safe && a.room == b.room && sameRecords(a.records, b.records)
}

// opened is the log of these sectors.
func opened(t *testing.T, d *disk.Disk, first, count int) *wal.Log {
	t.Helper()
	l, _, e := wal.Open(d, first, count)
	if l == nil || e != api.OK {
		t.Fatalf("Open = %d", e)
	}
	return l
}

// ready is a disk with a log that was formatted, opened and reset: its run is 2, and the disk has done four steps.
func ready(t *testing.T, sectors, first, count int) (*disk.Disk, *wal.Log) {
	t.Helper()
	d := disk.New(sectors)
	if e := wal.Format(d, first, count); e != api.OK {
		t.Fatalf("Format = %d", e)
	}
	l := opened(t, d, first, count)
	if e := l.Reset(); e != api.OK {
		t.Fatalf("Reset = %d", e)
	}
	return d, l
}

func add(t *testing.T, l *wal.Log, kind int, body []byte) int64 {
	t.Helper()
	at, e := l.Append(kind, body)
	if e != api.OK {
		t.Fatalf("Append(%d, %d bytes) = %d", kind, len(body), e)
	}
	return at
}

func some(n int) []byte {
	b := make([]byte, n)
	for i := range b {
		b[i] = byte(7*i + n)
	}
	return b
}

func TestExample(t *testing.T) {
	d := disk.New(8)
	if e := wal.Format(d, 0, 4); e != api.OK {
		t.Fatalf("Format = %d", e)
	}
	l, rs, e := wal.Open(d, 0, 4)
	if l == nil || len(rs) != 0 || e != api.OK {
		t.Fatalf("Open = %v, %d", rs, e)
	}
	if at, e := l.Append(1, []byte("ab")); at != 0 || e != api.ErrIdle {
		t.Errorf("Append ahead of a Reset = %d, %d", at, e)
	}
	if e := l.Reset(); e != api.OK {
		t.Errorf("Reset = %d", e)
	}
	if at, e := l.Append(1, []byte("ab")); at != 33554432 || e != api.OK {
		t.Errorf("Append = %d, %d", at, e)
	}
	if at, e := l.Append(2, nil); at != 33554436 || e != api.OK {
		t.Errorf("Append = %d, %d", at, e)
	}
	steps := d.Steps()
	if e := l.Flush(); e != api.OK || d.Steps() != steps+2 {
		t.Errorf("Flush = %d, %d steps", e, d.Steps()-steps)
	}
	d.On()
	want := []api.Record{{LSN: 33554432, Kind: 1, Body: []byte("ab")}, {LSN: 33554436, Kind: 2}}
	if _, rs, e := wal.Open(d, 0, 4); !sameRecords(rs, want) || e != api.OK {
		t.Errorf("Open behind a crash = %v, %d", rs, e)
	}
}

// P9.1: the bytes of the sectors are those of the form, and no other sector is touched.
func TestForm(t *testing.T) {
	d := disk.Load(bytes.Repeat([]byte{0xee}, 6*api.Sector))
	want := d.All()
	put := func(i int, b []byte) { copy(want[i*api.Sector:], b) }
	same := func(what string) {
		t.Helper()
		if !bytes.Equal(d.All(), want) || !bytes.Equal(d.Safe(), want) {
			t.Errorf("%s: other bytes than those of the form", what)
		}
	}
	wal.Format(d, 1, 4)
	put(1, logSector(1, 0, nil))
	same("Format")
	l := opened(t, d, 1, 4)
	same("Open")
	l.Reset()
	put(1, logSector(2, 0, nil))
	same("Reset")
	stream := rec(9, []byte("abc"))
	add(t, l, 9, []byte("abc"))
	same("Append")
	l.Flush()
	put(1, logSector(2, len(stream), stream))
	same("Flush")
	for _, n := range []int{127, 128, 1000} {
		add(t, l, 255, some(n))
		stream = append(stream, rec(255, some(n))...)
	}
	l.Flush()
	for i := range 3 {
		p := stream[i*perSector : min((i+1)*perSector, len(stream))]
		put(1+i, logSector(2, len(p), p))
	}
	same("Flush of three sectors")
	l.Reset()
	put(1, logSector(3, 0, nil))
	same("Reset behind records")
}

// wrongPlaces are places where no log can lie on a disk of six sectors.
var wrongPlaces = [][2]int{
	{-1, 1}, {-1, 0}, {0, 0}, {0, -1}, {0, 7}, {1, 6}, {5, 2}, {6, 1}, {6, 0}, {7, 1}, {7, -1},
	{math.MaxInt, 1}, {1, math.MaxInt}, {math.MaxInt, math.MaxInt}, {math.MinInt, 1}, {0, math.MinInt}, {math.MinInt, math.MinInt}, {math.MinInt, math.MaxInt}, {2, math.MaxInt - 1},
}

// P9.1: ErrArg of Format and Open is ahead of all else, and makes no step.
func TestWrongPlaces(t *testing.T) {
	for _, power := range []bool{true, false} {
		d := disk.New(6)
		if !power {
			d.Plan(api.Fate{Step: 1, Kind: api.FBefore})
			d.Sync()
		}
		steps := d.Steps()
		for _, x := range wrongPlaces {
			if e := wal.Format(d, x[0], x[1]); e != api.ErrArg {
				t.Errorf("Format(%d, %d) = %d", x[0], x[1], e)
			}
			if l, rs, e := wal.Open(d, x[0], x[1]); l != nil || len(rs) != 0 || e != api.ErrArg {
				t.Errorf("Open(%d, %d) = %v, %v, %d", x[0], x[1], l, rs, e)
			}
		}
		if d.Steps() != steps || !bytes.Equal(d.All(), make([]byte, 6*api.Sector)) {
			t.Error("what was refused has done something")
		}
	}
	d := disk.New(0)
	if e := wal.Format(d, 0, 1); e != api.ErrArg {
		t.Errorf("Format on a disk without sectors = %d", e)
	}
	if _, _, e := wal.Open(d, 0, 1); e != api.ErrArg {
		t.Errorf("Open on a disk without sectors = %d", e)
	}
}

// P9.1: places at the disk's edges.
func TestRightPlaces(t *testing.T) {
	for _, x := range [][2]int{{0, 1}, {0, 6}, {5, 1}, {2, 4}, {3, 2}} {
		d := disk.New(6)
		if e := wal.Format(d, x[0], x[1]); e != api.OK || d.Steps() != 2 {
			t.Errorf("Format(%d, %d) = %d, %d steps", x[0], x[1], e, d.Steps())
		}
		l, rs, e := wal.Open(d, x[0], x[1])
		if l == nil || len(rs) != 0 || e != api.OK || d.Steps() != 2 {
			t.Fatalf("Open(%d, %d) = %v, %d, %d steps", x[0], x[1], rs, e, d.Steps())
		}
		if l.End() != 1<<24 || l.Safe() != 1<<24 || l.Room() != x[1]*perSector {
			t.Errorf("Open(%d, %d): End %d, Safe %d, Room %d", x[0], x[1], l.End(), l.Safe(), l.Room())
		}
		if e := l.Reset(); e != api.OK || d.Steps() != 4 || l.End() != 2<<24 || l.Safe() != 2<<24 || l.Room() != x[1]*perSector {
			t.Errorf("Reset = %d, %d steps: End %d, Safe %d, Room %d", e, d.Steps(), l.End(), l.Safe(), l.Room())
		}
	}
}

// P9.1: Format's steps, each of them refused.
func TestFormatRefused(t *testing.T) {
	for step := 1; step <= 2; step++ {
		for kind, want := range map[int]api.Errno{api.FFail: api.ErrDisk, api.FBefore: api.ErrPower, api.FBehind: api.ErrPower} {
			d := disk.New(3)
			d.Plan(api.Fate{Step: step, Kind: kind})
			if e := wal.Format(d, 1, 2); e != want || d.Steps() != step {
				t.Errorf("step %d, fate %d: Format = %d behind %d steps", step, kind, e, d.Steps())
			}
		}
	}
	d := disk.New(3)
	d.Plan(api.Fate{Step: 1, Kind: api.FBefore})
	d.Sync()
	if e := wal.Format(d, 0, 2); e != api.ErrPower || d.Steps() != 1 {
		t.Errorf("Format without power = %d", e)
	}
}

// P9.1: Open's errors in their order, and that it makes no step.
func TestOpenErrors(t *testing.T) {
	d := disk.New(3)
	if l, rs, e := wal.Open(d, 0, 3); l != nil || rs != nil || e != api.ErrCorrupt {
		t.Errorf("Open of bytes 0 = %v, %v, %d", l, rs, e)
	}
	d.Plan(api.Fate{Step: 1, Kind: api.FBefore})
	d.Sync()
	if l, rs, e := wal.Open(d, 0, 3); l != nil || rs != nil || e != api.ErrPower {
		t.Errorf("Open without power = %v, %v, %d", l, rs, e)
	}
	if _, _, e := wal.Open(d, 0, 4); e != api.ErrArg {
		t.Errorf("Open beyond a disk without power = %d", e)
	}
	if d.Steps() != 1 {
		t.Errorf("Open makes %d steps", d.Steps()-1)
	}
}

// badSectors are bytes that are no log sector, though they look nearly like one of run 5 with these bytes.
func badSectors() map[string][]byte {
	with := func(at int, c byte) []byte {
		b := logSector(5, 4, rec(1, []byte("ab")))
		b[at] ^= c
		return b
	}
	sealed := func(at int, c byte) []byte {
		b := with(at, c)
		binary.LittleEndian.PutUint32(b, crc.Sum(b[4:]))
		return b
	}
	return map[string][]byte{
		"bytes 0":                  make([]byte, api.Sector),
		"bytes ff":                 bytes.Repeat([]byte{0xff}, api.Sector),
		"another sum":              with(0, 1),
		"another sum's last bit":   with(3, 128),
		"another run, old sum":     with(4, 1),
		"another byte, old sum":    with(16, 1),
		"a last byte, old sum":     with(511, 128),
		"run 0":                    logSector(0, 4, rec(1, []byte("ab"))),
		"run 2^38 + 1":             logSector(lastRun+1, 4, rec(1, []byte("ab"))),
		"run 2^39":                 logSector(lastRun*2, 4, rec(1, []byte("ab"))),
		"run 2^63 + 5":             logSector(1<<63+5, 4, rec(1, []byte("ab"))),
		"run 2^64 - 1":             logSector(math.MaxUint64, 4, rec(1, []byte("ab"))),
		"used 499":                 logSector(5, 499, bytes.Repeat([]byte{1}, perSector)),
		"used 65535":               logSector(5, 65535, bytes.Repeat([]byte{1}, perSector)),
		"a byte behind the used":   sealed(18, 1),
		"the last byte, not used":  sealed(511, 1),
		"bytes behind nothing":     logSector(5, 0, []byte{1, 0}),
		"a byte behind 497":        logSector(5, 497, bytes.Repeat([]byte{1}, perSector)),
		"one byte used less":       logSector(5, 3, rec(1, []byte("ab"))),
		"another form of the sum":  append([]byte{1, 2, 3, 4}, logSector(5, 0, nil)[4:]...),
		"used in the other order":  logSector(5, 4<<8, rec(1, []byte("ab"))),
		"the run in another order": logSector(5<<56, 4, rec(1, []byte("ab"))),
	}
}

// P9.1: the first sector is none.
func TestNoLogSector(t *testing.T) {
	for name, b := range badSectors() {
		d := disk.Load(slices.Concat(make([]byte, api.Sector), b, logSector(5, 0, nil)))
		if l, rs, e := wal.Open(d, 1, 2); l != nil || rs != nil || e != api.ErrCorrupt {
			t.Errorf("%s: Open = %v, %v, %d", name, l, rs, e)
		}
	}
}

// P9.1: the edges of what a sector may say.
func TestSectorsAtTheEdge(t *testing.T) {
	full := append(rec(3, some(perSector-3)), 0)[:perSector]
	for _, x := range []struct {
		run     uint64
		stream  []byte
		records int
	}{
		{1, nil, 0}, {lastRun, nil, 0}, {lastRun - 1, rec(1, nil), 1}, {lastRun, rec(255, nil), 1},
		{7, full, 1}, {7, bytes.Repeat([]byte{1, 0}, perSector/2), perSector / 2}, {7, make([]byte, perSector), 0},
	} {
		d := disk.Load(layout(x.run, x.stream, 1))
		l, rs, e := wal.Open(d, 0, 1)
		if e != api.OK || len(rs) != x.records {
			t.Fatalf("run %d: Open = %d records, %d", x.run, len(rs), e)
		}
		if want := read(d.All(), 0, 1); !sameRecords(rs, want.records) || l.End() != want.run<<24+int64(want.length) || l.Safe() != l.End() {
			t.Errorf("run %d: %v, End %d, Safe %d", x.run, rs, l.End(), l.Safe())
		}
	}
}

// P9.1: which sectors are the stream's.
func TestStream(t *testing.T) {
	one := bytes.Repeat(rec(1, nil), perSector/2)
	two := bytes.Repeat(rec(2, nil), perSector/2)
	good := func(run uint64, p []byte) []byte { return logSector(run, len(p), p) }
	for name, x := range map[string]struct {
		sectors [][]byte
		count   int
		records int
	}{
		"two whole":                {[][]byte{good(5, one), good(5, two)}, 2, 498},
		"the second beyond":        {[][]byte{good(5, one), good(5, two)}, 1, 249},
		"the first not whole":      {[][]byte{good(5, one[2:]), good(5, two)}, 2, 248},
		"the first one byte less":  {[][]byte{good(5, one[1:]), good(5, two)}, 2, 0},
		"the first empty":          {[][]byte{good(5, nil), good(5, two)}, 2, 0},
		"an older run behind":      {[][]byte{good(5, one), good(4, two)}, 2, 249},
		"a newer run behind":       {[][]byte{good(5, one), good(6, two)}, 2, 249},
		"nothing behind":           {[][]byte{good(5, one), make([]byte, api.Sector)}, 2, 249},
		"a gap":                    {[][]byte{good(5, one), make([]byte, api.Sector), good(5, two)}, 3, 249},
		"a gap of another run":     {[][]byte{good(5, one), good(4, one), good(5, two)}, 3, 249},
		"an empty one between":     {[][]byte{good(5, one), good(5, nil), good(5, two)}, 3, 249},
		"a shorter one between":    {[][]byte{good(5, one), good(5, one[:4]), good(5, two)}, 3, 251},
		"the last not whole":       {[][]byte{good(5, one), good(5, two), good(5, two[:6])}, 3, 501},
		"a record over the border": {[][]byte{good(5, append(one[:490:490], rec(7, some(20))[:8]...)), good(5, append(rec(7, some(20))[8:], 1, 0))}, 2, 247},
		"its second half is lost":  {[][]byte{good(5, append(one[:490:490], rec(7, some(20))[:8]...)), good(4, one)}, 2, 245},
		"a length over the border": {[][]byte{good(5, append(one[:496:496], rec(7, some(200))[:2]...)), good(5, rec(7, some(200))[2:])}, 2, 249},
	} {
		d := disk.Load(slices.Concat(x.sectors...))
		l, rs, e := wal.Open(d, 0, x.count)
		want := read(d.All(), 0, x.count)
		if e != api.OK || len(rs) != x.records || !sameRecords(rs, want.records) {
			t.Errorf("%s: Open = %d records, %d, want %d", name, len(rs), e, x.records)
			continue
		}
		if l.End() != 5<<24+int64(want.length) || l.Safe() != l.End() || l.Room() != x.count*perSector-want.length || !sameRecords(l.Records(0), rs) {
			t.Errorf("%s: End %d, Safe %d, Room %d", name, l.End(), l.Safe(), l.Room())
		}
	}
	for name, b := range badSectors() {
		d := disk.Load(slices.Concat(good(5, one), b, good(9, two)))
		l, rs, e := wal.Open(d, 0, 3)
		if e != api.OK || len(rs) != 249 {
			t.Errorf("%s behind: Open = %d records, %d", name, len(rs), e)
			continue
		}
		if l.Reset(); l.End() != 10<<24 {
			t.Errorf("%s behind: End %d", name, l.End())
		}
	}
}

// P9.1: the records are told up to the first that isn't whole and right.
func TestRecordsUpToAFault(t *testing.T) {
	ahead := slices.Concat(rec(1, []byte("ab")), rec(255, some(300)))
	for name, x := range map[string]struct {
		bytes []byte
		more  int
	}{
		"none":                   {nil, 0},
		"a right one":            {rec(1, nil), 1},
		"kind 0":                 {append(rec(0, nil), rec(1, nil)...), 0},
		"a kind alone":           {[]byte{1}, 0},
		"a length cut off":       {[]byte{1, 128}, 0},
		"a length in two forms":  {append([]byte{1, 128, 0}, rec(1, nil)...), 0},
		"a length of one byte":   {[]byte{1, 129, 0, 7}, 0},
		"a body cut off":         {rec(1, some(9))[:10], 0},
		"a body of 1200 bytes":   {rec(1, some(1200)), 1},
		"a body of 1201 bytes":   {append(rec(1, some(1201)), rec(1, nil)...), 0},
		"a length of 64 bits":    {append([]byte{1}, 255, 255, 255, 255, 255, 255, 255, 255, 255, 1), 0},
		"a length beyond those":  {append([]byte{1}, 255, 255, 255, 255, 255, 255, 255, 255, 255, 2, 0), 0},
		"a length without end":   {append([]byte{1}, bytes.Repeat([]byte{255}, 20)...), 0},
		"right ones behind":      {slices.Concat(rec(1, nil), rec(0, nil), rec(1, nil), rec(1, nil)), 1},
		"bytes 0 behind a right": {append(rec(1, nil), make([]byte, 50)...), 1},
	} {
		d := disk.Load(layout(3, append(bytes.Clone(ahead), x.bytes...), 5))
		l, rs, e := wal.Open(d, 0, 5)
		want := read(d.All(), 0, 5)
		if e != api.OK || len(rs) != 2+x.more || !sameRecords(rs, want.records) {
			t.Errorf("%s: Open = %d records, %d", name, len(rs), e)
			continue
		}
		if l.End() != 3<<24+int64(want.length) || l.Safe() != l.End() || l.Room() != 5*perSector-want.length {
			t.Errorf("%s: End %d, Safe %d, Room %d", name, l.End(), l.Safe(), l.Room())
		}
		if last, ok := l.Back(math.MaxInt64); !ok || !reflect.DeepEqual(last, rs[len(rs)-1]) {
			t.Errorf("%s: Back = %v, %v", name, last, ok)
		}
	}
}

// P9.1: a log that was opened takes no records ahead of a Reset; a Flush has nothing to do then.
func TestOpenedIsIdle(t *testing.T) {
	d, l := ready(t, 3, 0, 3)
	add(t, l, 4, []byte("x"))
	l.Flush()
	l = opened(t, d, 0, 3)
	steps, was := d.Steps(), stateOf(l)
	for _, kind := range []int{1, 0, 256} {
		for _, body := range [][]byte{nil, make([]byte, 1201), make([]byte, 3*perSector)} {
			if at, e := l.Append(kind, body); at != 0 || e != api.ErrIdle {
				t.Errorf("Append(%d, %d bytes) = %d, %d", kind, len(body), at, e)
			}
		}
	}
	if e := l.Flush(); e != api.OK || d.Steps() != steps || !was.same(stateOf(l)) {
		t.Errorf("Flush = %d, %d steps", e, d.Steps()-steps)
	}
	if e := l.Reset(); e != api.OK || d.Steps() != steps+2 {
		t.Errorf("Reset = %d, %d steps", e, d.Steps()-steps)
	}
	if at := add(t, l, 4, []byte("y")); at != 3<<24 || len(l.Records(0)) != 1 {
		t.Errorf("Append behind a Reset = %d", at)
	}
}

// P9.1: Append's errors in their order; what is refused changes nothing.
func TestAppendErrors(t *testing.T) {
	d, l := ready(t, 2, 0, 2)
	add(t, l, 1, some(900))
	steps, was := d.Steps(), stateOf(l)
	for _, x := range []struct {
		kind, body int
		want       api.Errno
	}{
		{0, 0, api.ErrArg}, {-1, 0, api.ErrArg}, {256, 0, api.ErrArg}, {257, 0, api.ErrArg}, {math.MaxInt, 0, api.ErrArg}, {math.MinInt, 0, api.ErrArg}, {1<<32 + 1, 0, api.ErrArg},
		{0, 1201, api.ErrArg}, {256, 100, api.ErrArg},
		{1, 1201, api.ErrLong}, {255, 5000, api.ErrLong}, {1, 1 << 20, api.ErrLong},
		{1, 1200, api.ErrLogFull}, {255, 92, api.ErrLogFull},
	} {
		if at, e := l.Append(x.kind, make([]byte, x.body)); at != 0 || e != x.want {
			t.Errorf("Append(%d, %d bytes) = %d, %d, want %d", x.kind, x.body, at, e, x.want)
		}
	}
	if d.Steps() != steps || !was.same(stateOf(l)) {
		t.Error("what was refused has changed something")
	}
	// 996 bytes less 903 are 93: a kind, a length, and 91.
	if l.Room() != 93 {
		t.Errorf("Room = %d", l.Room())
	}
	add(t, l, 255, some(91))
	if at, e := l.Append(1, nil); at != 0 || e != api.ErrLogFull || l.Room() != 0 {
		t.Errorf("Append to a full log = %d, %d, Room %d", at, e, l.Room())
	}
	if e := l.Flush(); e != api.OK || d.Steps() != steps+3 {
		t.Errorf("Flush of a full log = %d, %d steps", e, d.Steps()-steps)
	}
	if _, rs, e := wal.Open(d, 0, 2); len(rs) != 2 || e != api.OK {
		t.Errorf("Open of a full log = %d records, %d", len(rs), e)
	}
}

// P9.1: the least and the greatest of records, and how much room each takes.
func TestRoom(t *testing.T) {
	_, l := ready(t, 9, 1, 8)
	room := 8 * perSector
	for _, x := range [][2]int{{0, 2}, {1, 3}, {127, 129}, {128, 131}, {1200, 1203}} {
		for _, kind := range []int{1, 255} {
			if at := add(t, l, kind, some(x[0])); at != 2<<24+int64(8*perSector-room) {
				t.Errorf("LSN %d of a record behind %d bytes", at, 8*perSector-room)
			}
			if room -= x[1]; l.Room() != room || l.End() != 2<<24+int64(8*perSector-room) {
				t.Errorf("%d bytes: Room %d, want %d; End %d", x[0], l.Room(), room, l.End())
			}
		}
	}
	// One byte of room isn't enough for any record, two are.
	_, l = ready(t, 1, 0, 1)
	add(t, l, 1, some(490))
	add(t, l, 1, some(1))
	if l.Room() != 2 {
		t.Fatalf("Room = %d", l.Room())
	}
	if _, e := l.Append(1, some(1)); e != api.ErrLogFull {
		t.Errorf("Append of three bytes to two = %d", e)
	}
	add(t, l, 1, nil)
	_, l = ready(t, 1, 0, 1)
	add(t, l, 1, some(494))
	if _, e := l.Append(1, nil); e != api.ErrLogFull || l.Room() != 1 {
		t.Errorf("Append of two bytes to one = %d, Room %d", e, l.Room())
	}
}

// fill puts records of so many bytes in all in (of one byte there is none).
func fill(t *testing.T, l *wal.Log, n int) {
	t.Helper()
	for n > 0 {
		size, head := 3, 2
		if n >= 900 {
			size, head = 603, 3
		} else if n >= 500 {
			size, head = 303, 3
		}
		if n == 2 || n == 4 {
			size = 2
		}
		add(t, l, 8, some(size-head))
		n -= size
	}
}

// filled is a log of run 2 on a disk of eight sectors, with so many bytes safe, and so many more that aren't.
func filled(t *testing.T, safe, more int) (*disk.Disk, *wal.Log) {
	t.Helper()
	d, l := ready(t, 8, 1, 6)
	fill(t, l, safe)
	if e := l.Flush(); e != api.OK {
		t.Fatalf("Flush = %d", e)
	}
	fill(t, l, more)
	return d, l
}

// P9.1: Flush writes just the sectors with bytes that aren't safe yet, in their order, and syncs.
func TestFlushSteps(t *testing.T) {
	for _, x := range []struct {
		safe, more  int
		first, last int // sectors of the disk
	}{
		{0, 2, 1, 1}, {0, 497, 1, 1}, {0, 498, 1, 1}, {0, 500, 1, 2}, {0, 996, 1, 2}, {0, 998, 1, 3},
		{2, 2, 1, 1}, {2, 496, 1, 1}, {2, 497, 1, 2}, {496, 2, 1, 1}, {496, 3, 1, 2}, {497, 2, 1, 2},
		{498, 2, 2, 2}, {498, 498, 2, 2}, {498, 499, 2, 3}, {500, 2, 2, 2}, {996, 3, 3, 3}, {995, 3, 2, 3}, {996, 1990, 3, 6}, {2, 2986, 1, 6}, {2986, 2, 6, 6},
	} {
		for cut := 1; ; cut++ {
			d, l := filled(t, x.safe, x.more)
			if int(l.Safe()) != 2<<24+x.safe || int(l.End()) != 2<<24+x.safe+x.more {
				t.Fatalf("%v: Safe %d, End %d", x, l.Safe()-2<<24, l.End()-2<<24)
			}
			writes := x.last - x.first + 1
			d.Plan(api.Fate{Step: d.Steps() + cut, Kind: api.FBefore})
			e := l.Flush()
			if cut > writes+1 {
				if e != api.OK || len(d.Loose()) != 0 || l.Safe() != l.End() {
					t.Errorf("%v: Flush = %d", x, e)
				}
				break
			}
			var want []int
			for i := range cut - 1 {
				want = append(want, x.first+i)
			}
			if e != api.ErrPower || !slices.Equal(d.Loose(), want) {
				t.Errorf("%v: cut at step %d: Flush = %d, written are %v", x, cut, e, d.Loose())
			}
		}
	}
}

// P9.1: where nothing is to be done nothing is done, with and without power.
func TestFlushOfNothing(t *testing.T) {
	d, l := ready(t, 2, 0, 2)
	add(t, l, 1, nil)
	l.Flush()
	for _, power := range []bool{true, false} {
		if !power {
			d.Plan(api.Fate{Step: d.Steps() + 1, Kind: api.FBehind})
			d.Sync()
		}
		steps := d.Steps()
		if e := l.Flush(); e != api.OK || d.Steps() != steps {
			t.Errorf("Flush of nothing = %d, %d steps", e, d.Steps()-steps)
		}
	}
	if e := l.Reset(); e != api.ErrPower {
		t.Errorf("Reset without power = %d", e)
	}
	if e := l.Flush(); e != api.ErrDead {
		t.Errorf("Flush behind it = %d", e)
	}
}

// P9.1: behind a step that was refused the log is dead, and tells what it told.
func TestDead(t *testing.T) {
	for what, do := range map[string]func(*wal.Log) api.Errno{"Flush": (*wal.Log).Flush, "Reset": (*wal.Log).Reset} {
		for kind, want := range map[int]api.Errno{api.FFail: api.ErrDisk, api.FBefore: api.ErrPower, api.FBehind: api.ErrPower} {
			for step := 1; step <= 2; step++ {
				d, l := filled(t, 600, 100)
				was, steps := stateOf(l), d.Steps()
				d.Plan(api.Fate{Step: steps + step, Kind: kind})
				if e := do(l); e != want || d.Steps() != steps+step {
					t.Errorf("%s, step %d, fate %d: %d behind %d steps", what, step, kind, e, d.Steps()-steps)
				}
				d.On(0, 1, 2, 3, 4, 5, 6, 7)
				_, appended := l.Append(0, make([]byte, 2000))
				for _, e := range []api.Errno{l.Flush(), l.Reset(), appended, l.Flush()} {
					if e != api.ErrDead {
						t.Errorf("%s, step %d, fate %d: the log isn't dead: %d", what, step, kind, e)
					}
				}
				if d.Steps() != steps+step || !was.same(stateOf(l)) {
					t.Errorf("%s, step %d, fate %d: a dead log has changed", what, step, kind)
				}
				if last, ok := l.Back(math.MaxInt64); !ok || !reflect.DeepEqual(last, was.records[len(was.records)-1]) {
					t.Errorf("%s, step %d, fate %d: Back = %v, %v", what, step, kind, last, ok)
				}
			}
		}
	}
}

// P9.1: a log that dies ahead of its first Reset is dead, not idle.
func TestDeadAheadOfIdle(t *testing.T) {
	d := disk.New(2)
	wal.Format(d, 0, 2)
	l := opened(t, d, 0, 2)
	d.Plan(api.Fate{Step: 3, Kind: api.FFail})
	if e := l.Reset(); e != api.ErrDisk {
		t.Errorf("Reset = %d", e)
	}
	if at, e := l.Append(1, nil); at != 0 || e != api.ErrDead {
		t.Errorf("Append = %d, %d", at, e)
	}
	if l.End() != 1<<24 || l.Safe() != 1<<24 {
		t.Errorf("End %d, Safe %d", l.End(), l.Safe())
	}
}

// P9.1: without power the log's first step is refused.
func TestWithoutPower(t *testing.T) {
	d, l := ready(t, 2, 0, 2)
	d.Plan(api.Fate{Step: 5, Kind: api.FBefore})
	d.Sync()
	add(t, l, 1, nil)
	if e := l.Flush(); e != api.ErrPower || d.Steps() != 5 {
		t.Errorf("Flush = %d, %d steps", e, d.Steps())
	}
	d.On()
	if e := l.Flush(); e != api.ErrDead {
		t.Errorf("Flush behind it = %d", e)
	}
}

// P9.1, P9.3: a run's number is one above those of all sectors, also of those beyond the stream.
func TestRunNumbers(t *testing.T) {
	for _, x := range []struct {
		runs []uint64
		next int64
	}{
		{[]uint64{1}, 2}, {[]uint64{1, 0, 0}, 2}, {[]uint64{1, 9, 3}, 10}, {[]uint64{5, 0, 77}, 78}, {[]uint64{5, 4, 3}, 6},
		{[]uint64{5, lastRun - 1, 0}, lastRun}, {[]uint64{lastRun - 1}, lastRun}, {[]uint64{3, lastRun + 1, 2}, 4}, {[]uint64{3, math.MaxUint64, 0}, 4},
	} {
		var all []byte
		for _, run := range x.runs {
			all = append(all, logSector(run, 0, nil)...)
		}
		d := disk.Load(append(all, logSector(1<<30, 0, nil)...)) // the last sector isn't the log's
		l := opened(t, d, 0, len(x.runs))
		if l.End() != int64(x.runs[0])<<24 {
			t.Errorf("runs %v: End %d", x.runs, l.End())
		}
		for i := range 3 {
			next := x.next + int64(i)
			if next > lastRun {
				break
			}
			if e := l.Reset(); e != api.OK || l.End() != next<<24 || l.Safe() != next<<24 {
				t.Errorf("runs %v: Reset %d = %d, End %d", x.runs, i, e, l.End())
			}
			if b, _ := d.Read(0); !bytes.Equal(b, logSector(uint64(next), 0, nil)) {
				t.Errorf("runs %v: the first sector is another", x.runs)
			}
		}
	}
}

// P9.1: no run is left: nothing is done, and the log lives.
func TestNoRunLeft(t *testing.T) {
	for _, runs := range [][2]uint64{{lastRun, 0}, {3, lastRun}, {lastRun, lastRun}} {
		d := disk.Load(slices.Concat(logSector(runs[0], 2, rec(6, nil)), logSector(runs[1], 0, nil)))
		l := opened(t, d, 0, 2)
		was := stateOf(l)
		for range 2 {
			if e := l.Reset(); e != api.ErrLogFull || d.Steps() != 0 || !was.same(stateOf(l)) || len(was.records) != 1 {
				t.Errorf("runs %v: Reset = %d, %d steps", runs, e, d.Steps())
			}
		}
		if at, e := l.Append(1, nil); at != 0 || e != api.ErrIdle {
			t.Errorf("runs %v: Append = %d, %d", runs, at, e)
		}
		if e := l.Flush(); e != api.OK {
			t.Errorf("runs %v: Flush = %d", runs, e)
		}
	}
	// The last run is as good as any, and a Reset behind it is refused.
	d := disk.Load(logSector(lastRun-1, 0, nil))
	l := opened(t, d, 0, 1)
	l.Reset()
	if at := add(t, l, 5, []byte("z")); at != lastRun<<24 {
		t.Errorf("LSN %d", at)
	}
	was := stateOf(l)
	if e := l.Reset(); e != api.ErrLogFull || d.Steps() != 2 || !was.same(stateOf(l)) {
		t.Errorf("Reset = %d", e)
	}
	if add(t, l, 5, nil) != lastRun<<24+3 || l.Flush() != api.OK {
		t.Error("the log doesn't go on")
	}
	d.On()
	if _, rs, e := wal.Open(d, 0, 1); len(rs) != 2 || e != api.OK {
		t.Errorf("Open = %v, %d", rs, e)
	}
}

// P9.1: Records and Back at all LSNs, of records that are safe, that aren't, and behind a Reset.
func TestRecordsAndBack(t *testing.T) {
	d, l := filled(t, 900, 400)
	check := func(what string, l *wal.Log) {
		t.Helper()
		rs := l.Records(math.MinInt64)
		at := []int64{math.MinInt64, -1, 0, 1, 1 << 24, 2<<24 - 1, l.End(), l.End() + 1, l.Safe(), 3 << 24, math.MaxInt64, math.MaxInt64 - 1}
		for _, r := range rs {
			at = append(at, r.LSN-1, r.LSN, r.LSN+1)
		}
		for _, x := range at {
			n := 0
			for n < len(rs) && rs[n].LSN < x {
				n++
			}
			if got := l.Records(x); !sameRecords(got, rs[n:]) {
				t.Errorf("%s: Records(%d) = %d, want %d", what, x, len(got), len(rs)-n)
			}
			got, ok := l.Back(x)
			if n == 0 {
				if ok || !reflect.DeepEqual(got, api.Record{}) {
					t.Errorf("%s: Back(%d) = %v, %v", what, x, got, ok)
				}
			} else if !ok || !sameRecords([]api.Record{got}, rs[n-1:n]) {
				t.Errorf("%s: Back(%d) = %v, %v, want %v", what, x, got, ok, rs[n-1])
			}
		}
	}
	check("appended", l)
	if n := len(l.Records(l.Safe())); n == 0 || n == len(l.Records(0)) {
		t.Fatalf("%d records aren't safe", n)
	}
	l.Flush()
	check("flushed", l)
	check("opened", opened(t, d, 1, 6))
	l.Reset()
	check("reset", l)
	if len(l.Records(0)) != 0 {
		t.Error("records behind a Reset")
	}
	add(t, l, 1, []byte("q"))
	check("one behind a reset", l)
}

// P9.2, P9.1: going back from record to record meets all.
func TestBackwards(t *testing.T) {
	_, l := ready(t, api.MaxSectors, 0, 400)
	for l.Room() >= 2 {
		add(t, l, 1+l.Room()%255, nil)
	}
	want := l.Records(0)
	slices.Reverse(want)
	var got []api.Record
	for r, ok := l.Back(l.End()); ok; r, ok = l.Back(r.LSN) {
		got = append(got, r)
	}
	if !sameRecords(got, want) || len(got) != 400*perSector/2 {
		t.Errorf("%d records backwards, %d forwards", len(got), len(want))
	}
}

// model is a log told in a plainer way: a list of records, of which a beginning is safe.
type model struct {
	disk             *disk.Disk
	first, count     int
	run, greatest    int64
	records          []api.Record
	length, safe     int
	takes, dead      bool
	steps            int
	failAt, failKind int
}

func (m *model) step() api.Errno {
	m.steps++
	if m.steps != m.failAt {
		return api.OK
	}
	m.dead = true
	if m.failKind == api.FFail {
		return api.ErrDisk
	}
	return api.ErrPower
}

func (m *model) append(kind int, body []byte) (int64, api.Errno) {
	n := len(rec(byte(kind), body))
	switch {
	case m.dead:
		return 0, api.ErrDead
	case !m.takes:
		return 0, api.ErrIdle
	case kind < 1 || kind > 255:
		return 0, api.ErrArg
	case len(body) > 1200:
		return 0, api.ErrLong
	case m.length+n > m.count*perSector:
		return 0, api.ErrLogFull
	}
	at := m.run<<24 + int64(m.length)
	m.records = append(m.records, api.Record{LSN: at, Kind: kind, Body: body})
	m.length += n
	return at, api.OK
}

func (m *model) flush() api.Errno {
	if m.dead {
		return api.ErrDead
	}
	if m.safe == m.length {
		return api.OK
	}
	for i := range m.count {
		if m.length > i*perSector && m.safe < (i+1)*perSector {
			if e := m.step(); e != api.OK {
				return e
			}
		}
	}
	if e := m.step(); e != api.OK {
		return e
	}
	m.safe = m.length
	return api.OK
}

func (m *model) reset() api.Errno {
	if m.dead {
		return api.ErrDead
	}
	for range 2 {
		if e := m.step(); e != api.OK {
			return e
		}
	}
	m.greatest++
	m.run, m.records, m.length, m.safe, m.takes = m.greatest, nil, 0, 0, true
	return api.OK
}

// plan lets a step that comes soon be refused.
func (m *model) plan(r *rand.Rand) {
	m.failAt, m.failKind = m.steps+1+r.IntN(25), 1+r.IntN(3)
	m.disk.Plan(api.Fate{Step: m.failAt, Kind: m.failKind})
}

// safeRecords are those that are safe.
func (m *model) safeRecords() []api.Record {
	n := 0
	for n < len(m.records) && m.records[n].LSN < m.run<<24+int64(m.safe) {
		n++
	}
	return m.records[:n]
}

func (m *model) same(t *testing.T, l *wal.Log) {
	t.Helper()
	base := m.run << 24
	if l.End() != base+int64(m.length) || l.Safe() != base+int64(m.safe) || l.Room() != m.count*perSector-m.length {
		t.Fatalf("End %d, Safe %d, Room %d, want %d, %d of %d", l.End(), l.Safe(), l.Room(), m.length, m.safe, base)
	}
	if m.disk.Steps() != m.steps {
		t.Fatalf("%d steps, want %d", m.disk.Steps(), m.steps)
	}
	if !sameRecords(l.Records(0), m.records) {
		t.Fatal("Records tells others")
	}
}

// sameAround holds against each other what is told from an LSN on, and ahead of it.
func (m *model) sameAround(t *testing.T, l *wal.Log, at int64) {
	t.Helper()
	n := 0
	for n < len(m.records) && m.records[n].LSN < at {
		n++
	}
	got, ok := l.Back(at)
	if ok != (n > 0) || ok && !sameRecords([]api.Record{got}, m.records[n-1:n]) {
		t.Fatalf("Back(%d) = %v, %v", at, got, ok)
	}
	if !sameRecords(l.Records(at), m.records[n:]) {
		t.Fatalf("Records(%d) tells others", at)
	}
}

func body(r *rand.Rand) []byte {
	n := r.IntN(6)
	switch r.IntN(8) {
	case 0:
		n = r.IntN(1203)
	case 1:
		n = r.IntN(300)
	}
	b := make([]byte, n)
	for i := range b {
		b[i] = byte(r.Uint32())
	}
	return b
}

func kind(r *rand.Rand) int {
	if r.IntN(12) == 0 {
		return r.IntN(4)*255 - 255
	}
	return 1 + r.IntN(255)
}

// someCalls does calls in any order on a log and its model, and holds them against each other; it ends when the log is dead.
func someCalls(t *testing.T, r *rand.Rand, l *wal.Log, m *model, calls int) {
	t.Helper()
	for range calls {
		switch x := r.IntN(20); {
		case x < 14:
			k, b := kind(r), body(r)
			at, e := l.Append(k, b)
			if want, we := m.append(k, b); at != want || e != we {
				t.Fatalf("Append(%d, %d bytes) = %d, %d, want %d, %d", k, len(b), at, e, want, we)
			}
		case x < 18:
			if e, want := l.Flush(), m.flush(); e != want {
				t.Fatalf("Flush = %d, want %d", e, want)
			}
		case x < 19:
			if e, want := l.Reset(), m.reset(); e != want {
				t.Fatalf("Reset = %d, want %d", e, want)
			}
		}
		m.same(t, l)
		m.sameAround(t, l, m.run<<24+r.Int64N(int64(m.length+3))-1)
		if m.dead && r.IntN(4) == 0 {
			return
		}
	}
}

// P9.1 to P9.3: any calls in any order, steps that are refused, and crashes of which any pending sectors persist.
func TestCallsInAnyOrder(t *testing.T) {
	for seed := range uint64(150) {
		r := rand.New(rand.NewPCG(seed, 9))
		first, count := r.IntN(3), 1+r.IntN(6)
		d := disk.New(first + count + r.IntN(3))
		if e := wal.Format(d, first, count); e != api.OK {
			t.Fatalf("Format = %d", e)
		}
		var before *model
		var told []api.Record
		for range 12 {
			l, rs, e := wal.Open(d, first, count)
			if e != api.OK {
				t.Fatalf("Open = %d", e)
			}
			x := read(d.All(), first, count)
			if !sameRecords(rs, x.records) {
				t.Fatal("Open tells other records than the sectors")
			}
			behindCrash(t, before, rs)
			// What was told once, or was safe, goes on being told up to a Reset; LSNs never fall.
			if len(rs) > 0 && len(told) > 0 && rs[0].LSN < told[0].LSN {
				t.Fatalf("LSN %d behind %d", rs[0].LSN, told[0].LSN)
			}
			told = rs
			m := &model{disk: d, first: first, count: count, run: x.run, greatest: x.greatest, records: x.records, length: x.length, safe: x.length, steps: d.Steps()}
			m.same(t, l)
			m.plan(r)
			someCalls(t, r, l, m, 60)
			var keeps []int
			for _, i := range d.Loose() {
				if r.IntN(2) == 0 {
					keeps = append(keeps, i)
				}
			}
			d.On(keeps...)
			d.Plan()
			before = m
		}
	}
}

// behindCrash tells whether what an Open behind a crash told fits to what the log was.
func behindCrash(t *testing.T, m *model, rs []api.Record) {
	t.Helper()
	if m == nil {
		return
	}
	safe := m.safeRecords()
	if len(rs) == 0 && m.dead {
		// A Reset may have been under way; if a Flush was, what was safe would have to be told.
		return
	}
	if len(rs) < len(safe) || len(rs) > len(m.records) || !sameRecords(rs, m.records[:len(rs)]) {
		t.Fatalf("%d records behind a crash: %d were safe, %d appended", len(rs), len(safe), len(m.records))
	}
}

// scene is a log with safe records and others, at the edge of a step.
type scene struct {
	name       string
	safe, more int
	reset      bool
}

// P9.2: each step of a Flush and of a Reset, cut off in each way, with each choice of sectors that persist.
func TestEveryCrash(t *testing.T) {
	for _, s := range []scene{
		{"in one sector", 100, 100, false}, {"first records", 0, 1200, false}, {"into the next", 400, 300, false}, {"from a whole one", 498, 700, false},
		{"over four", 300, 1700, false}, {"to the last byte", 990, 1998, false}, {"a reset", 700, 0, true}, {"a reset over others", 600, 500, true}, {"an early reset", 0, 0, true},
	} {
		for kind := api.FFail; kind <= api.FBehind; kind++ {
			for step := 1; crashAt(t, s, step, kind); step++ {
			}
		}
	}
}

// crashAt lets a step be refused, and then crashes with each set of pending sectors; false if there is no such step.
func crashAt(t *testing.T, s scene, step, kind int) bool {
	t.Helper()
	run := func() (*disk.Disk, state, api.Errno) {
		d, l := filled(t, s.safe, s.more)
		d.Plan(api.Fate{Step: d.Steps() + step, Kind: kind})
		was := stateOf(l)
		if s.reset {
			return d, was, l.Reset()
		}
		return d, was, l.Flush()
	}
	d, was, e := run()
	if e == api.OK {
		return false
	}
	loose := d.Loose()
	for set := range 1 << len(loose) {
		d, _, _ := run()
		var keeps []int
		for i, x := range loose {
			if set>>i&1 == 1 {
				keeps = append(keeps, x)
			}
		}
		d.On(keeps...)
		_, rs, e := wal.Open(d, 1, 6)
		what := fmt.Sprintf("%s: step %d, fate %d, keeps %v", s.name, step, kind, keeps)
		if e != api.OK {
			t.Errorf("%s: Open = %d", what, e)
			continue
		}
		if s.reset && len(rs) == 0 {
			continue
		}
		safe := len(was.records) - len(slices.DeleteFunc(slices.Clone(was.records), func(r api.Record) bool { return r.LSN < was.safe }))
		if len(rs) < safe || len(rs) > len(was.records) || !sameRecords(rs, was.records[:len(rs)]) {
			t.Errorf("%s: %d records, %d were safe of %d", what, len(rs), safe, len(was.records))
		}
	}
	return true
}

// P9.3: behind a Reset no older record comes back, though all sectors of the old run lie there yet.
func TestResetIsForGood(t *testing.T) {
	d, l := ready(t, 6, 0, 6)
	last := int64(0)
	for range 6 {
		for l.Room() >= 83 {
			at := add(t, l, 3, some(81))
			if at <= last {
				t.Fatalf("LSN %d behind %d", at, last)
			}
			last = at
		}
		l.Flush()
		if e := l.Reset(); e != api.OK {
			t.Fatalf("Reset = %d", e)
		}
		d.On()
		if _, rs, e := wal.Open(d, 0, 6); len(rs) != 0 || e != api.OK {
			t.Fatalf("%d records behind a Reset, %d", len(rs), e)
		}
		// A first sector of the new run that is whole lies ahead of those of the old one.
		for l.Room() > 5*perSector {
			last = add(t, l, 4, some(81))
		}
		l.Flush()
		fresh := l.Records(0)
		d.On()
		if _, rs, e := wal.Open(d, 0, 6); !sameRecords(rs, fresh) || e != api.OK {
			t.Fatalf("%d records of the new run, want %d", len(rs), len(fresh))
		}
		l = opened(t, d, 0, 6)
		l.Reset()
	}
}

// P9.3: a run that was begun and lost, or begun and not safe, has left no records under its number.
func TestRunsBehindCrashes(t *testing.T) {
	d, l := ready(t, 3, 0, 3)
	add(t, l, 1, some(700))
	l.Flush()
	d.Plan(api.Fate{Step: d.Steps() + 2, Kind: api.FFail})
	if e := l.Reset(); e != api.ErrDisk {
		t.Fatalf("Reset = %d", e)
	}
	// Not safe, but there: the run counts.
	l = opened(t, d, 0, 3)
	if l.End() != 3<<24 || l.Safe() != 3<<24 {
		t.Errorf("End %d", l.End())
	}
	if e := l.Reset(); e != api.OK || l.End() != 4<<24 {
		t.Errorf("Reset = %d, End %d", e, l.End())
	}
	// A sector of a run that persists while the first one's part is lost.
	add(t, l, 1, some(1100))
	d.Plan(api.Fate{Step: d.Steps() + 4, Kind: api.FBefore})
	l.Flush()
	d.On(2)
	l, rs, e := wal.Open(d, 0, 3)
	if len(rs) != 0 || e != api.OK || l.End() != 4<<24 {
		t.Errorf("Open = %d records, %d, End %d", len(rs), e, l.End())
	}
	if e := l.Reset(); e != api.OK || l.End() != 5<<24 {
		t.Errorf("Reset = %d, End %d", e, l.End())
	}
}

// P9.1: Open at all bytes: noise, and logs in which something was turned.
func TestOpenOverAnyBytes(t *testing.T) {
	r := rand.New(rand.NewPCG(9, 9))
	for range 3000 {
		count := 1 + r.IntN(4)
		all := noise(r, count)
		d := disk.Load(all)
		l, rs, e := wal.Open(d, 0, count)
		want := read(all, 0, count)
		if !want.ok {
			if l != nil || rs != nil || e != api.ErrCorrupt {
				t.Fatalf("Open = %v, %v, %d", l, rs, e)
			}
			continue
		}
		if e != api.OK || !sameRecords(rs, want.records) {
			t.Fatalf("Open = %d records, %d, want %d", len(rs), e, len(want.records))
		}
		if l.End() != want.run<<24+int64(want.length) || l.Safe() != l.End() || l.Room() != count*perSector-want.length || d.Steps() != 0 {
			t.Fatalf("End %d, Safe %d, Room %d", l.End(), l.Safe(), l.Room())
		}
		e, we := l.Reset(), api.OK
		if want.greatest == lastRun {
			we = api.ErrLogFull
		}
		if e != we || e == api.OK && l.End() != (want.greatest+1)<<24 {
			t.Fatalf("Reset = %d, End %d, the greatest run was %d", e, l.End(), want.greatest)
		}
	}
}

// noise is sectors of a stream of nearly right records, some of them turned or of other runs.
func noise(r *rand.Rand, count int) []byte {
	var stream []byte
	for len(stream) < count*perSector {
		switch r.IntN(30) {
		case 0:
			stream = append(stream, byte(r.Uint32()), byte(r.Uint32()), byte(r.Uint32()))
		default:
			b := body(r)
			if r.IntN(4) > 0 {
				b = b[:min(len(b), 1200)]
			}
			stream = append(stream, rec(byte(1+r.IntN(255)), b)...)
		}
	}
	stream = stream[:min(len(stream), r.IntN(count*perSector+1)+200)]
	run := uint64(1 + r.IntN(3))
	if r.IntN(20) == 0 {
		run = lastRun
	}
	var all []byte
	for i := range count {
		p := stream[min(i*perSector, len(stream)):min((i+1)*perSector, len(stream))]
		b := logSector(run, len(p), p)
		switch r.IntN(24) {
		case 0:
			b = logSector(run+uint64(r.IntN(3))-1, len(p), p)
		case 1:
			b[r.IntN(api.Sector)] ^= 1 << r.IntN(8)
		case 2:
			b = make([]byte, api.Sector)
		case 3:
			b = logSector(run, len(p)/2, p)
		case 4:
			b = logSector(run, len(p)/2, p[:len(p)/2])
		}
		all = append(all, b...)
	}
	return all
}

// spoil writes over all the memory of a list, its spare room too.
func spoil(b []byte) {
	b = b[:cap(b)]
	for i := range b {
		b[i] ^= 0xff
	}
}

// P9.4
func TestArgumentsAreTheirOwners(t *testing.T) {
	d, l := ready(t, 3, 0, 3)
	b := append(make([]byte, 0, 700), some(600)...)
	b[:700][650] = 5
	add(t, l, 1, b)
	if !bytes.Equal(b, some(600)) || b[:700][650] != 5 {
		t.Error("Append has changed its argument")
	}
	spoil(b)
	want := []api.Record{{LSN: 2 << 24, Kind: 1, Body: some(600)}}
	if !sameRecords(l.Records(0), want) {
		t.Error("Append has kept its argument")
	}
	l.Flush()
	if _, rs, _ := wal.Open(d, 0, 3); !sameRecords(rs, want) {
		t.Error("Append has kept its argument for Flush")
	}
}

// spoilAll writes over an answer, and tells whether two of its bodies share memory.
func spoilAll(t *testing.T, rs, want []api.Record) {
	t.Helper()
	for i := range rs {
		if !sameRecords(rs[i:], want[i:]) {
			t.Fatal("two bodies of one answer share memory")
		}
		spoil(rs[i].Body)
	}
	rs = rs[:cap(rs)]
	clear(rs)
}

// P9.4
func TestAnswersAreNew(t *testing.T) {
	d, l := ready(t, 3, 0, 3)
	var want []api.Record
	for i := range 5 {
		at := add(t, l, 1+i, some(100*i))
		want = append(want, api.Record{LSN: at, Kind: 1 + i, Body: some(100 * i)})
	}
	l.Flush()
	o, rs, _ := wal.Open(d, 0, 3)
	spoilAll(t, rs, want)
	for _, x := range []*wal.Log{l, o} {
		for range 2 {
			spoilAll(t, x.Records(0), want)
			spoilAll(t, x.Records(want[2].LSN), want[2:])
			back, _ := x.Back(math.MaxInt64)
			if !sameRecords([]api.Record{back}, want[4:]) {
				t.Error("an answer shares memory with the log")
			}
			spoil(back.Body)
		}
	}
	if _, rs, _ := wal.Open(d, 0, 3); !sameRecords(rs, want) {
		t.Error("an answer shares memory with the disk")
	}
	rs = l.Records(0)
	add(t, l, 9, nil)
	l.Reset()
	add(t, l, 9, some(700))
	if !sameRecords(rs, want) {
		t.Error("an answer has changed behind the call")
	}
}

// P2: what a log answers hangs on its calls alone; two logs on one disk, in other sectors, share nothing.
func TestTwoLogsOnADisk(t *testing.T) {
	d := disk.New(6)
	wal.Format(d, 0, 3)
	wal.Format(d, 3, 3)
	a, b := opened(t, d, 0, 3), opened(t, d, 3, 3)
	a.Reset()
	b.Reset()
	b.Reset()
	add(t, a, 1, some(900))
	add(t, b, 2, some(800))
	a.Flush()
	b.Flush()
	d.On()
	_, as, _ := wal.Open(d, 0, 3)
	_, bs, _ := wal.Open(d, 3, 3)
	if !sameRecords(as, []api.Record{{LSN: 2 << 24, Kind: 1, Body: some(900)}}) || !sameRecords(bs, []api.Record{{LSN: 3 << 24, Kind: 2, Body: some(800)}}) {
		t.Errorf("%d and %d records", len(as), len(bs))
	}
}

// P9.1: the greatest log there can be.
func TestGreatestLog(t *testing.T) {
	d, l := ready(t, api.MaxSectors, 0, api.MaxSectors)
	n := 0
	for ; l.Room() >= 1203; n++ {
		add(t, l, 1+n%255, some(1200))
	}
	steps := d.Steps()
	if e := l.Flush(); e != api.OK {
		t.Fatalf("Flush = %d", e)
	}
	if used := int(l.End() - 2<<24); d.Steps()-steps != (used+perSector-1)/perSector+1 {
		t.Errorf("%d steps for %d bytes", d.Steps()-steps, used)
	}
	d.On()
	o, rs, e := wal.Open(d, 0, api.MaxSectors)
	if e != api.OK || len(rs) != n || o.End() != l.End() || !sameRecords(rs, l.Records(0)) {
		t.Errorf("Open = %d records, %d, want %d", len(rs), e, n)
	}
}
