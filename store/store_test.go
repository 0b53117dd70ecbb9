package store_test

import (
	"bytes"
	"fmt"
	"math"
	"slices"
	"strings"
	"testing"

	"skein/api"
	"skein/disk"
	"skein/store"
)

// open opens the store on a disk.
func open(t *testing.T, d *disk.Disk, conf api.Conf) *store.Store {
	t.Helper()
	s, e := store.Open(d, conf)
	if s == nil || e != api.OK {
		t.Fatalf("Open = %v, %d", s, e)
	}
	return s
}

// fresh is a store on an empty disk.
func fresh(t *testing.T, sectors, log, frames int) (*disk.Disk, *store.Store) {
	t.Helper()
	d := disk.New(sectors)
	return d, open(t, d, api.Conf{Log: log, Frames: frames})
}

// want holds an error against the one that is wanted.
func want(t *testing.T, what string, got, want api.Errno) {
	t.Helper()
	if got != want {
		t.Fatalf("%s = %d, want %d", what, got, want)
	}
}

func row(key, val string) api.Row { return api.Row{Key: []byte(key), Val: []byte(val)} }
func goes(key string) api.Row     { return api.Row{Key: []byte(key), Gone: true} }

// apply applies rows, which goes well.
func apply(t *testing.T, s *store.Store, time int64, rows ...api.Row) {
	t.Helper()
	want(t, "Apply", s.Apply(time, rows...), api.OK)
	if s.Last() != time {
		t.Fatalf("Last = %d, want %d", s.Last(), time)
	}
}

// is holds a row's value at a time against the one that is wanted.
func is(t *testing.T, s *store.Store, key string, time int64, wanted string) {
	t.Helper()
	if val, ok, e := s.Get([]byte(key), time); string(val) != wanted || !ok || e != api.OK {
		t.Fatalf("Get(%q, %d) = %q, %t, %d, want %q", key, time, val, ok, e, wanted)
	}
}

// isNot wants no value of a row at a time.
func isNot(t *testing.T, s *store.Store, key string, time int64) {
	t.Helper()
	if val, ok, e := s.Get([]byte(key), time); len(val) > 0 || ok || e != api.OK {
		t.Fatalf("Get(%q, %d) = %q, %t, %d, want none", key, time, val, ok, e)
	}
}

// told is pairs as one text.
func told(pairs []api.Pair) string {
	var out strings.Builder
	for _, p := range pairs {
		out.WriteString(string(p.Key) + "=" + string(p.Val) + " ")
	}
	return out.String()
}

// scans holds all rows between two keys against those that are wanted.
func scans(t *testing.T, s *store.Store, low, high string, time int64, wanted string) {
	t.Helper()
	pairs, e := s.Scan([]byte(low), []byte(high), time)
	if got := told(pairs); got != wanted || e != api.OK {
		t.Fatalf("Scan(%q, %q, %d) = %q, %d, want %q", low, high, time, got, e, wanted)
	}
}

// sweeps sweeps so many versions away, and leaves so many.
func sweeps(t *testing.T, s *store.Store, h int64, wanted, left int) {
	t.Helper()
	if n, e := s.Sweep(h); n != wanted || e != api.OK {
		t.Fatalf("Sweep(%d) = %d, %d, want %d", h, n, e, wanted)
	}
	has(t, s, left)
}

// has holds how many versions there are against how many are wanted.
func has(t *testing.T, s *store.Store, wanted int) {
	t.Helper()
	if n, e := s.Versions(); n != wanted || e != api.OK {
		t.Fatalf("Versions = %d, %d, want %d", n, e, wanted)
	}
}

func TestExamples(t *testing.T) {
	d, s := fresh(t, 60, 20, 4)
	apply(t, s, 3, row("a", "1"))
	apply(t, s, 5, row("a", "2"), row("b", "3"))
	apply(t, s, 7, goes("a"))
	is(t, s, "a", 4, "1")
	d.On()
	s = open(t, d, api.Conf{Log: 20, Frames: 4})
	is(t, s, "a", 4, "1")
	scans(t, s, "", "", 5, "a=2 b=3 ")
	scans(t, s, "", "", 9, "b=3 ")
	sweeps(t, s, 6, 1, 3)
	isNot(t, s, "a", 4)
	is(t, s, "a", 6, "2")
	sweeps(t, s, 7, 2, 1)
	scans(t, s, "", "", 9, "b=3 ")
	isNot(t, s, "a", 6)
}

// P13.1: a table to which nothing was applied, and one to which no rows were.
func TestNothing(t *testing.T) {
	d, s := fresh(t, 60, 20, 4)
	empty := func(last int64) {
		t.Helper()
		for _, time := range []int64{math.MinInt64, -1, 0, 1, api.MaxTime, math.MaxInt64} {
			for _, key := range []string{"", "\x00", "\x00\x00", "a", strings.Repeat("a", 500)} {
				isNot(t, s, key, time)
				scans(t, s, key, "", time, "")
				scans(t, s, "", key, time, "")
			}
		}
		sweeps(t, s, 0, 0, 0)
		sweeps(t, s, api.MaxTime, 0, 0)
		if s.Last() != last {
			t.Fatalf("Last = %d, want %d", s.Last(), last)
		}
	}
	empty(-1)
	s = open(t, d, api.Conf{Log: 20, Frames: 4})
	empty(-1)
	apply(t, s, 0)
	empty(0)
	want(t, "Apply of nothing at the same time", s.Apply(0), api.ErrStale)
	apply(t, s, 300)
	empty(300)
	d.On()
	s = open(t, d, api.Conf{Log: 20, Frames: 4})
	empty(300)
	apply(t, s, api.MaxTime)
	empty(api.MaxTime)
}

// P13.1: a row at each time.
func TestGet(t *testing.T) {
	_, s := fresh(t, 100, 60, 4)
	apply(t, s, 0, row("a", "zero"), goes("b"))
	apply(t, s, 2, row("a", ""), row("ab", "x"))
	apply(t, s, 3, goes("a"), row("b", "there"))
	apply(t, s, 9, goes("a"), row("ab", "y"))
	apply(t, s, 10, row("a", "again"))
	for time, wanted := range map[int64]string{
		math.MinInt64: "none", -1: "none", 0: "zero", 1: "zero", 2: "", 3: "none", 4: "none", 8: "none", 9: "none",
		10: "again", 11: "again", api.MaxTime: "again", api.MaxTime + 1: "again", math.MaxInt64: "again",
	} {
		if wanted == "none" {
			isNot(t, s, "a", time)
		} else {
			is(t, s, "a", time, wanted)
		}
	}
	isNot(t, s, "b", 2)
	is(t, s, "b", 3, "there")
	is(t, s, "ab", 8, "x")
	is(t, s, "ab", math.MaxInt64, "y")
	for _, key := range []string{"", "\x00", "aa", "abc", "c", "a\x00", "a\x00\x00", "a\x00\xff", strings.Repeat("a", 30), strings.Repeat("a", 31), strings.Repeat("a", 5000)} {
		isNot(t, s, key, 10)
	}
	has(t, s, 9)
}

// P13.1: the bounds of a scan.
func TestScan(t *testing.T) {
	_, s := fresh(t, 100, 60, 4)
	apply(t, s, 1, row("b", "1"), row("d", "2"), row("f", "3"))
	apply(t, s, 2, row("b", "4"), row("b\x00", "5"), goes("d"), row("", "6"))
	long := strings.Repeat("c", 1000)
	for _, x := range []struct {
		low, high string
		time      int64
		wanted    string
	}{
		{"", "", -1, ""},
		{"", "", math.MinInt64, ""},
		{"", "", 0, ""},
		{"", "", 1, "b=1 d=2 f=3 "},
		{"", "", 2, "=6 b=4 b\x00=5 f=3 "},
		{"", "", 3, "=6 b=4 b\x00=5 f=3 "},
		{"", "", math.MaxInt64, "=6 b=4 b\x00=5 f=3 "},
		{"\x00", "", 2, "b=4 b\x00=5 f=3 "},
		{"", "b", 2, "=6 "},
		{"", "\x00", 2, "=6 "},
		{"b", "f", 1, "b=1 d=2 "},
		{"b", "f", 2, "b=4 b\x00=5 "},
		{"b", "f\x00", 1, "b=1 d=2 f=3 "},
		{"b", "b\x00", 2, "b=4 "},
		{"b\x00", "b\x00\x00", 2, "b\x00=5 "},
		{"b\x00", "c", 1, ""},
		{"d", "d", 1, ""},
		{"d", "d\x00", 1, "d=2 "},
		{"f", "b", 1, ""},
		{"g", "", 1, ""},
		{"", "a", 1, ""},
		{long, "", 1, "d=2 f=3 "},
		{"", long, 1, "b=1 "},
		{long, long, 1, ""},
	} {
		scans(t, s, x.low, x.high, x.time, x.wanted)
	}
	if pairs, e := s.Scan(nil, []byte{}, 1); len(pairs) != 3 || e != api.OK {
		t.Errorf("Scan(nil, none) = %d pairs, %d", len(pairs), e)
	}
}

// P13.1: rows stand in their keys' order, whatever bytes these have.
func TestOrder(t *testing.T) {
	_, s := fresh(t, 300, 250, 4)
	names := []string{"", "\x00", "\x00\x00", "\x00\x00\x00", "\x00\x01", "\x00\xff", "\x00\xff\x00", "\x01", "a", "a\x00", "a\x00\x00", "a\x00\xff", "a\x01", "aa", "\x7f", "\xfe", "\xff", "\xff\x00", "\xff\xff"}
	wanted := ""
	for i, k := range names {
		wanted += k + "=" + fmt.Sprint(i) + " "
		n := (i*7 + 3) % len(names)
		apply(t, s, int64(2*i), goes(names[n]))
		apply(t, s, int64(2*i+1), row(names[n], fmt.Sprint(n)))
	}
	if !slices.IsSorted(names) {
		t.Fatal("the names are not in order")
	}
	scans(t, s, "", "", 100, wanted)
	for i, k := range names {
		is(t, s, k, 100, fmt.Sprint(i))
		scans(t, s, k, k+"\x00", 100, k+"="+fmt.Sprint(i)+" ")
	}
	has(t, s, 2*len(names))
}

// P13.1: how long keys and values may be: 40 bytes the key's version, 99 the value.
func TestLengths(t *testing.T) {
	_, s := fresh(t, 100, 80, 4)
	longest := strings.Repeat("v", 99)
	for i, x := range []struct {
		key, val string
		wanted   api.Errno
	}{
		{strings.Repeat("k", 30), "", api.OK},
		{strings.Repeat("k", 31), "", api.ErrLong},
		{strings.Repeat("k", 40), "", api.ErrLong},
		{strings.Repeat("\x00", 15), "", api.OK},
		{strings.Repeat("\x00", 15) + "k", "", api.ErrLong},
		{strings.Repeat("\x00", 14) + "kk", "", api.OK},
		{strings.Repeat("k", 29) + "\x00", "", api.ErrLong},
		{strings.Repeat("k", 28) + "\x00", "", api.OK},
		{strings.Repeat("k", 100000), "", api.ErrLong},
		{"a", longest, api.OK},
		{"a", longest + "v", api.ErrLong},
		{"a", strings.Repeat("v", 100000), api.ErrLong},
		{strings.Repeat("k", 30), longest, api.OK},
	} {
		time := int64(i)
		last := s.Last()
		want(t, fmt.Sprint("Apply ", i), s.Apply(time, row(x.key, x.val)), x.wanted)
		if x.wanted != api.OK {
			if s.Last() != last {
				t.Fatalf("Last = %d behind what was refused", s.Last())
			}
			continue
		}
		is(t, s, x.key, time, x.val)
	}
	apply(t, s, 50, api.Row{Key: []byte("a"), Val: []byte(longest + "more"), Gone: true})
	isNot(t, s, "a", 50)
	is(t, s, "a", 49, longest)
	want(t, "Apply of a long key that goes", s.Apply(51, goes(strings.Repeat("k", 31))), api.ErrLong)
}

// P13.1: Apply and Sweep look for their errors in order.
func TestErrorsInOrder(t *testing.T) {
	_, s := fresh(t, 100, 60, 4)
	apply(t, s, 5, row("a", "1"))
	long, wide := row(strings.Repeat("k", 31), ""), row("w", strings.Repeat("v", 100))
	for _, x := range []struct {
		time   int64
		rows   []api.Row
		wanted api.Errno
	}{
		{-1, nil, api.ErrArg},
		{math.MinInt64, []api.Row{long}, api.ErrArg},
		{api.MaxTime + 1, nil, api.ErrArg},
		{math.MaxInt64, []api.Row{long}, api.ErrArg},
		{5, nil, api.ErrStale},
		{4, []api.Row{long, wide}, api.ErrStale},
		{0, []api.Row{row("b", ""), row("b", "")}, api.ErrStale},
		{6, []api.Row{long}, api.ErrLong},
		{6, []api.Row{row("b", ""), wide}, api.ErrLong},
		{6, []api.Row{row("b", ""), row("b", "")}, api.ErrArg},
		{6, []api.Row{row("b", ""), goes("b")}, api.ErrArg},
		{6, []api.Row{goes("b"), row("c", ""), goes("b")}, api.ErrArg},
		{6, []api.Row{row("b", ""), row("b", ""), long}, api.ErrArg},
		{6, []api.Row{row("b", ""), long, row("b", "")}, api.ErrLong},
		{6, []api.Row{row("w", ""), wide}, api.ErrLong},
		{6, []api.Row{long, long}, api.ErrLong},
		{6, []api.Row{{}, {}}, api.ErrArg},
		{6, []api.Row{{Key: nil}, {Key: []byte{}}}, api.ErrArg},
	} {
		want(t, fmt.Sprint("Apply at ", x.time), s.Apply(x.time, x.rows...), x.wanted)
		has(t, s, 1)
		scans(t, s, "", "", 99, "a=1 ")
		if s.Last() != 5 || s.Dead() {
			t.Fatalf("Last = %d, Dead %t", s.Last(), s.Dead())
		}
	}
	for _, h := range []int64{-1, math.MinInt64, api.MaxTime + 1, math.MaxInt64} {
		if n, e := s.Sweep(h); n != 0 || e != api.ErrArg {
			t.Errorf("Sweep(%d) = %d, %d", h, n, e)
		}
	}
	apply(t, s, api.MaxTime, row("b", "2"))
	want(t, "Apply behind the greatest time", s.Apply(api.MaxTime, row("c", "")), api.ErrStale)
	scans(t, s, "", "", api.MaxTime-1, "a=1 ")
	scans(t, s, "", "", api.MaxTime, "a=1 b=2 ")
	sweeps(t, s, api.MaxTime, 0, 2)
}

// isDead wants ErrDead of every call that answers an error.
func isDead(t *testing.T, s *store.Store, last int64) {
	t.Helper()
	if !s.Dead() || s.Last() != last {
		t.Fatalf("Dead %t, Last %d, want %d", s.Dead(), s.Last(), last)
	}
	for _, time := range []int64{-1, 0, last + 1, api.MaxTime + 1} {
		want(t, "Apply", s.Apply(time, row(strings.Repeat("k", 50), "")), api.ErrDead)
		if n, e := s.Sweep(time); n != 0 || e != api.ErrDead {
			t.Fatalf("Sweep = %d, %d", n, e)
		}
		if val, ok, e := s.Get([]byte("a"), time); val != nil || ok || e != api.ErrDead {
			t.Fatalf("Get = %q, %t, %d", val, ok, e)
		}
		if pairs, e := s.Scan(nil, nil, time); pairs != nil || e != api.ErrDead {
			t.Fatalf("Scan = %v, %d", pairs, e)
		}
	}
	want(t, "Check", s.Check(), api.ErrDead)
	if n, e := s.Versions(); n != 0 || e != api.ErrDead {
		t.Fatalf("Versions = %d, %d", n, e)
	}
}

// A store of which a step was refused, or that has no power, is dead.
func TestDead(t *testing.T) {
	for name, call := range map[string]func(s *store.Store) api.Errno{
		"Apply":    func(s *store.Store) api.Errno { return s.Apply(9, row("b", "")) },
		"Get":      func(s *store.Store) api.Errno { _, _, e := s.Get([]byte("a"), 1); return e },
		"Scan":     func(s *store.Store) api.Errno { _, e := s.Scan(nil, nil, 1); return e },
		"Sweep":    func(s *store.Store) api.Errno { _, e := s.Sweep(9); return e },
		"Check":    func(s *store.Store) api.Errno { return s.Check() },
		"Versions": func(s *store.Store) api.Errno { _, e := s.Versions(); return e },
	} {
		d, s := fresh(t, 100, 60, 4)
		apply(t, s, 3, row("a", "1"))
		d.Plan(api.Fate{Step: d.Steps() + 1, Kind: api.FBefore})
		d.Sync()
		want(t, name, call(s), api.ErrPower)
		isDead(t, s, 3)
		if s, e := store.Open(d, api.Conf{Log: 60, Frames: 4}); s != nil || e != api.ErrPower {
			t.Errorf("Open without power = %v, %d", s, e)
		}
		d.On()
		s = open(t, d, api.Conf{Log: 60, Frames: 4})
		scans(t, s, "", "", 9, "a=1 ")
	}
}

// Open's errors are those of the layers below.
func TestOpen(t *testing.T) {
	for _, x := range []struct {
		sectors, log int
		wanted       api.Errno
	}{
		{20, 0, api.ErrArg}, {20, -1, api.ErrArg}, {20, 20, api.ErrArg}, {20, 21, api.ErrArg}, {0, 1, api.ErrArg}, {20, math.MaxInt, api.ErrArg},
		{20, 19, api.ErrDiskFull}, {20, 18, api.OK}, {api.MaxSectors, api.MaxSectors / 2, api.OK},
	} {
		s, e := store.Open(disk.New(x.sectors), api.Conf{Log: x.log, Frames: 3, Sectors: 5, Seeds: []int{1, 2}})
		if e != x.wanted || (s == nil) != (e != api.OK) {
			t.Errorf("Open of %d sectors, %d of the log = %v, %d, want %d", x.sectors, x.log, s, e, x.wanted)
		}
	}
	noise := make([]byte, 30*api.Sector)
	noise[3] = 1
	if s, e := store.Open(disk.Load(noise), api.Conf{Log: 20}); s != nil || e != api.ErrCorrupt {
		t.Errorf("Open without a log = %v, %d", s, e)
	}
	full := 0
	for log := 1; log < 8; log++ {
		d := disk.New(log + 6)
		s, e := store.Open(d, api.Conf{Log: log})
		if e == api.ErrLogFull && s == nil {
			full++
			continue
		}
		want(t, "Open", e, api.OK)
	}
	if full == 0 {
		t.Error("no log was full")
	}
}

// P13.1: what a sweep takes away of one row.
func TestSweepOfARow(t *testing.T) {
	const none = "none"
	for _, x := range []struct {
		vals  []string // of the times 2, 4, 6 and so on
		h     int64
		count int
		left  []string // by the same times; those taken away have nothing
	}{
		{[]string{"a"}, 0, 0, []string{"a"}},
		{[]string{"a"}, 2, 0, []string{"a"}},
		{[]string{"a"}, 9, 0, []string{"a"}},
		{[]string{none}, 0, 0, []string{none}},
		{[]string{none}, 1, 0, []string{none}},
		{[]string{none}, 2, 1, nil},
		{[]string{none}, 9, 1, nil},
		{[]string{"a", "b"}, 3, 0, []string{"a", "b"}},
		{[]string{"a", "b"}, 4, 1, []string{"", "b"}},
		{[]string{"a", none}, 3, 0, []string{"a", none}},
		{[]string{"a", none}, 4, 2, nil},
		{[]string{none, "a"}, 3, 1, []string{"", "a"}},
		{[]string{none, "a"}, 4, 1, []string{"", "a"}},
		{[]string{"a", none, "b", none}, 5, 2, []string{"", "", "b", none}},
		{[]string{"a", none, "b", none}, 6, 2, []string{"", "", "b", none}},
		{[]string{"a", none, "b", none}, 7, 2, []string{"", "", "b", none}},
		{[]string{"a", none, "b", none}, 8, 4, nil},
		{[]string{none, none, none}, 5, 2, []string{"", "", none}},
		{[]string{"a", "b", "c"}, api.MaxTime, 2, []string{"", "", "c"}},
	} {
		_, s := fresh(t, 100, 60, 4)
		for i, val := range x.vals {
			r := row("k", val)
			r.Gone = val == none
			apply(t, s, int64(2*i+2), r)
		}
		last := s.Last()
		left := 0
		for _, val := range x.left {
			if val != "" {
				left++
			}
		}
		sweeps(t, s, x.h, x.count, left)
		sweeps(t, s, x.h, 0, left)
		now := none
		for i, val := range x.left {
			if val != "" {
				now = val
			}
			if now == none {
				isNot(t, s, "k", int64(2*i+2))
			} else {
				is(t, s, "k", int64(2*i+3), now)
			}
		}
		if s.Last() != last {
			t.Errorf("behind the sweep Last is %d, not %d", s.Last(), last)
		}
		want(t, "Apply at the same time", s.Apply(last, row("k", "")), api.ErrStale)
	}
}

// A checkpoint empties the log, and changes nothing else.
func TestCheck(t *testing.T) {
	d, s := fresh(t, 100, 60, 4)
	apply(t, s, 3, row("a", "1"))
	want(t, "Check", s.Check(), api.OK)
	if len(d.Loose()) > 0 {
		t.Errorf("pending: %v", d.Loose())
	}
	data := d.Safe()
	clear(data[api.Sector : 60*api.Sector]) // but for its first sector the log isn't needed any more
	s = open(t, disk.Load(data), api.Conf{Log: 60, Frames: 4})
	scans(t, s, "", "", 3, "a=1 ")
	if s.Last() != 3 {
		t.Errorf("Last = %d", s.Last())
	}
}

// mine is bytes with spare room behind them, and a call that wants them unchanged, and writes over them.
func mine(t *testing.T, text string) ([]byte, func()) {
	room := append([]byte(text), "spare room"...)
	was := bytes.Clone(room)
	return room[:len(text)], func() {
		t.Helper()
		if !bytes.Equal(room, was) {
			t.Fatalf("an argument has changed: %q", room)
		}
		overwrite(room)
	}
}

// overwrite writes over a list and its spare room.
func overwrite(b []byte) {
	b = b[:cap(b)]
	for i := range b {
		b[i] = 'X'
	}
}

// P13.5: arguments are neither changed nor kept.
func TestArguments(t *testing.T) {
	seeds := []int{3, 4}
	d := disk.New(100)
	s := open(t, d, api.Conf{Log: 60, Frames: 4, Seeds: seeds})
	if !slices.Equal(seeds, []int{3, 4}) {
		t.Error("Open has changed the seeds")
	}
	var rows []api.Row
	var gone []func()
	for _, x := range []string{"", "a", "a\x00", "b"} {
		key, goneKey := mine(t, x)
		val, goneVal := mine(t, "value of "+x)
		rows = append(rows, api.Row{Key: key, Val: val})
		gone = append(gone, goneKey, goneVal)
	}
	spare := append(rows, row("spare", "room"))
	want(t, "Apply", s.Apply(1, rows...), api.OK)
	if string(spare[4].Key) != "spare" || string(spare[4].Val) != "room" || string(rows[3].Key) != "b" {
		t.Error("Apply has changed its rows")
	}
	for _, f := range gone {
		f()
	}
	clear(spare)
	key, goneKey := mine(t, "a")
	low, goneLow := mine(t, "a")
	high, goneHigh := mine(t, "b")
	val, ok, e := s.Get(key, 1)
	goneKey()
	if string(val) != "value of a" || !ok || e != api.OK {
		t.Fatalf("Get = %q, %t, %d", val, ok, e)
	}
	pairs, e := s.Scan(low, high, 1)
	goneLow()
	goneHigh()
	if told(pairs) != "a=value of a a\x00=value of a\x00 " || e != api.OK {
		t.Fatalf("Scan = %q, %d", told(pairs), e)
	}
	const wanted = "=value of  a=value of a a\x00=value of a\x00 b=value of b "
	scans(t, s, "", "", 1, wanted)
	d.On()
	scans(t, open(t, d, api.Conf{Log: 60, Frames: 4}), "", "", 1, wanted)
}

// P13.5: answers are new memory, no two of one share any.
func TestAnswers(t *testing.T) {
	_, s := fresh(t, 100, 60, 4)
	apply(t, s, 1, row("a", "1"), row("b", "22"), row("c", ""), row("d\x00", "333"))
	apply(t, s, 2, row("b", "22"))
	const wanted = "a=1 b=22 c= d\x00=333 "
	val, _, _ := s.Get([]byte("b"), 1)
	overwrite(val)
	is(t, s, "b", 1, "22")
	pairs, _ := s.Scan(nil, nil, 2)
	other, _ := s.Scan(nil, nil, 2)
	for i := range pairs {
		for _, list := range [][]byte{pairs[i].Key, pairs[i].Val} {
			was := bytes.Clone(list)
			overwrite(list)
			copy(list, was)
			if told(pairs) != wanted || told(other) != wanted {
				t.Fatalf("lists share memory: %q, %q", told(pairs), told(other))
			}
		}
	}
	for i := range pairs {
		overwrite(pairs[i].Key)
		overwrite(pairs[i].Val)
	}
	clear(pairs[:cap(pairs)])
	if told(other) != wanted {
		t.Fatalf("answers share memory: %q", told(other))
	}
	scans(t, s, "", "", 2, wanted)
}
