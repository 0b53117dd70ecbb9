package btree_test

import (
	"bytes"
	"math"
	"strings"
	"testing"

	"skein/api"
	"skein/btree"
	"skein/disk"
	"skein/page"
	"skein/recov"
)

// store opens the store on a disk.
func store(t *testing.T, d *disk.Disk, log, frames int) *recov.Store {
	t.Helper()
	s, e := recov.Open(d, api.Conf{Log: log, Frames: frames})
	if s == nil || e != api.OK {
		t.Fatalf("recov.Open = %v, %d", s, e)
	}
	return s
}

// open opens the tree in a store.
func open(t *testing.T, s *recov.Store) *btree.Tree {
	t.Helper()
	b, e := btree.Open(s)
	if b == nil || e != api.OK {
		t.Fatalf("Open = %v, %d", b, e)
	}
	return b
}

// fresh is a tree on an empty disk.
func fresh(t *testing.T, sectors, log, frames int) (*disk.Disk, *recov.Store, *btree.Tree) {
	t.Helper()
	d := disk.New(sectors)
	s := store(t, d, log, frames)
	return d, s, open(t, s)
}

// want holds an error against the one that is wanted.
func want(t *testing.T, what string, got, want api.Errno) {
	t.Helper()
	if got != want {
		t.Fatalf("%s = %d, want %d", what, got, want)
	}
}

// unit does Puts in a unit of their own, of keys and their values by turns.
func unit(t *testing.T, s *recov.Store, b *btree.Tree, texts ...string) {
	t.Helper()
	want(t, "Begin", s.Begin(), api.OK)
	for i := 0; i < len(texts); i += 2 {
		want(t, "Put", b.Put([]byte(texts[i]), []byte(texts[i+1])), api.OK)
	}
	want(t, "Commit", s.Commit(), api.OK)
}

// del takes a key away that is there, or isn't.
func del(t *testing.T, b *btree.Tree, key string, wanted bool) {
	t.Helper()
	if ok, e := b.Del([]byte(key)); ok != wanted || e != api.OK {
		t.Fatalf("Del(%q) = %t, %d", key, ok, e)
	}
}

// is holds a key's value against the one that is wanted.
func is(t *testing.T, b *btree.Tree, key, wanted string) {
	t.Helper()
	if val, ok, e := b.Get([]byte(key)); string(val) != wanted || !ok || e != api.OK {
		t.Fatalf("Get(%q) = %q, %t, %d, want %q", key, val, ok, e, wanted)
	}
}

// isNot wants no value of a key.
func isNot(t *testing.T, b *btree.Tree, key string) {
	t.Helper()
	if val, ok, e := b.Get([]byte(key)); len(val) > 0 || ok || e != api.OK {
		t.Fatalf("Get(%q) = %q, %t, %d, want none", key, val, ok, e)
	}
}

// told is pairs as one text.
func told(pairs []api.Pair) string {
	var out strings.Builder
	for _, p := range pairs {
		out.WriteString(string(p.Key) + "=" + string(p.Val) + " ")
	}
	return out.String()
}

// ranges holds the pairs between two keys against those that are wanted.
func ranges(t *testing.T, b *btree.Tree, low, high string, most int, wanted string) {
	t.Helper()
	pairs, e := b.Range([]byte(low), []byte(high), most)
	if got := told(pairs); got != wanted || e != api.OK {
		t.Fatalf("Range(%q, %q, %d) = %q, %d, want %q", low, high, most, got, e, wanted)
	}
}

const all = math.MaxInt

func TestExamples(t *testing.T) {
	d, s, b := fresh(t, 30, 8, 3)
	unit(t, s, b, "b", "2", "a", "1")
	ranges(t, b, "", "", 9, "a=1 b=2 ")
	want(t, "Begin", s.Begin(), api.OK)
	del(t, b, "a", true)
	isNot(t, b, "a")
	want(t, "Abort", s.Abort(), api.OK)
	is(t, b, "a", "1")
	d.On()
	b = open(t, store(t, d, 8, 3))
	ranges(t, b, "", "", 9, "a=1 b=2 ")
}

// P12.1: a tree without keys, and one with a few.
func TestFewKeys(t *testing.T) {
	_, s, b := fresh(t, 60, 40, 2)
	isNot(t, b, "")
	isNot(t, b, "a")
	ranges(t, b, "", "", all, "")
	want(t, "Begin", s.Begin(), api.OK)
	del(t, b, "", false)
	del(t, b, "a", false)
	want(t, "Commit", s.Commit(), api.OK)
	unit(t, s, b, "", "", "\x00", "nought", "a", "", "ab", "x", "a\x00", "y", "\xff\xff", "z")
	ranges(t, b, "", "", all, "= \x00=nought a= a\x00=y ab=x \xff\xff=z ")
	is(t, b, "", "")
	is(t, b, "a", "")
	isNot(t, b, "\xff")
	isNot(t, b, "aa")
	unit(t, s, b, "a", "other", "", "empty")
	is(t, b, "a", "other")
	is(t, b, "", "empty")
	want(t, "Begin", s.Begin(), api.OK)
	del(t, b, "", true)
	del(t, b, "", false)
	del(t, b, "aa", false)
	del(t, b, "ab", true)
	want(t, "Check", b.Check(), api.OK)
	want(t, "Commit", s.Commit(), api.OK)
	ranges(t, b, "", "", all, "\x00=nought a=other a\x00=y \xff\xff=z ")
}

// P12.1: the bounds of a range.
func TestRange(t *testing.T) {
	_, s, b := fresh(t, 60, 40, 2)
	unit(t, s, b, "b", "1", "d", "2", "f", "3")
	long := strings.Repeat("c", 1000)
	for _, x := range []struct {
		low, high string
		most      int
		wanted    string
	}{
		{"", "", 0, ""},
		{"", "", -1, ""},
		{"", "", math.MinInt, ""},
		{"", "", 1, "b=1 "},
		{"", "", 2, "b=1 d=2 "},
		{"", "", 3, "b=1 d=2 f=3 "},
		{"", "", 4, "b=1 d=2 f=3 "},
		{"b", "f", all, "b=1 d=2 "},
		{"b\x00", "f\x00", all, "d=2 f=3 "},
		{"d", "d", all, ""},
		{"d", "d\x00", all, "d=2 "},
		{"f", "b", all, ""},
		{"g", "", all, ""},
		{"", "b", all, ""},
		{"", "a", all, ""},
		{"c", "", 1, "d=2 "},
		{long, "", all, "d=2 f=3 "},
		{"", long, all, "b=1 "},
		{long, long, all, ""},
	} {
		ranges(t, b, x.low, x.high, x.most, x.wanted)
	}
	if pairs, e := b.Range(nil, []byte{}, all); len(pairs) != 3 || e != api.OK {
		t.Errorf("Range(nil, none) = %d pairs, %d", len(pairs), e)
	}
}

// P12.1: how long keys and values may be.
func TestLengths(t *testing.T) {
	_, s, b := fresh(t, 60, 40, 2)
	key, val := strings.Repeat("k", api.MaxKeyLen), strings.Repeat("v", api.MaxValLen)
	want(t, "Begin", s.Begin(), api.OK)
	want(t, "Put", b.Put([]byte(key), []byte(val)), api.OK)
	want(t, "Put of a long key", b.Put([]byte(key+"k"), []byte(val)), api.ErrLong)
	want(t, "Put of a long value", b.Put([]byte(key), []byte(val+"v")), api.ErrLong)
	if ok, e := b.Del([]byte(key + "k")); ok || e != api.ErrLong {
		t.Errorf("Del of a long key = %t, %d", ok, e)
	}
	want(t, "Commit", s.Commit(), api.OK)
	is(t, b, key, val)
	isNot(t, b, key+"k")
	isNot(t, b, strings.Repeat("k", 5000))
	isNot(t, b, key[1:])
	ranges(t, b, "", "", all, key+"="+val+" ")
}

// P12.1: Put and Del look for their errors in order.
func TestErrorsInOrder(t *testing.T) {
	_, s, b := fresh(t, 60, 40, 2)
	long, longVal := make([]byte, api.MaxKeyLen+1), make([]byte, api.MaxValLen+1)
	refuses := func(wanted api.Errno) {
		t.Helper()
		want(t, "Put of a long key", b.Put(long, nil), api.ErrLong)
		want(t, "Put of a long value", b.Put(nil, longVal), api.ErrLong)
		want(t, "Put", b.Put([]byte("a"), nil), wanted)
		if ok, e := b.Del(long); ok || e != api.ErrLong {
			t.Errorf("Del of a long key = %t, %d", ok, e)
		}
		for _, key := range []string{"a", "b"} {
			if ok, e := b.Del([]byte(key)); ok || e != wanted {
				t.Errorf("Del = %t, %d, want %d", ok, e, wanted)
			}
		}
	}
	refuses(api.ErrIdle)
	unit(t, s, b, "a", "1")
	refuses(api.ErrIdle)
	is(t, b, "a", "1")
	for _, active := range []bool{false, true} {
		d, s, dead := fresh(t, 60, 40, 2)
		b = dead
		if active {
			want(t, "Begin", s.Begin(), api.OK)
		}
		d.Plan(api.Fate{Step: d.Steps() + 1, Kind: api.FFail})
		if active {
			want(t, "Commit", s.Commit(), api.ErrDisk)
		} else {
			want(t, "Checkpoint", s.Checkpoint(), api.ErrDisk)
		}
		refuses(api.ErrDead)
		isDead(t, b)
		wanted := api.ErrDead
		if s.Active() {
			wanted = api.ErrActive
		}
		if x, e := btree.Open(s); x != nil || e != wanted {
			t.Errorf("Open of a dead store = %v, %d", x, e)
		}
	}
}

// isDead wants ErrDead of every call.
func isDead(t *testing.T, b *btree.Tree) {
	t.Helper()
	want(t, "Put", b.Put([]byte("a"), nil), api.ErrDead)
	if ok, e := b.Del([]byte("a")); ok || e != api.ErrDead {
		t.Errorf("Del = %t, %d", ok, e)
	}
	if val, ok, e := b.Get([]byte("a")); val != nil || ok || e != api.ErrDead {
		t.Errorf("Get = %q, %t, %d", val, ok, e)
	}
	for _, most := range []int{all, 0} {
		if pairs, e := b.Range(nil, nil, most); pairs != nil || e != api.ErrDead {
			t.Errorf("Range = %v, %d", pairs, e)
		}
	}
	want(t, "Check", b.Check(), api.ErrDead)
}

// Without power reading is a step that is refused.
func TestWithoutPower(t *testing.T) {
	for _, call := range []func(b *btree.Tree) api.Errno{
		func(b *btree.Tree) api.Errno { return b.Put([]byte("a"), nil) },
		func(b *btree.Tree) api.Errno { _, e := b.Del([]byte("a")); return e },
		func(b *btree.Tree) api.Errno { _, _, e := b.Get([]byte("a")); return e },
		func(b *btree.Tree) api.Errno { _, e := b.Range(nil, nil, all); return e },
		func(b *btree.Tree) api.Errno { return b.Check() },
	} {
		d, s, b := fresh(t, 60, 40, 2)
		want(t, "Begin", s.Begin(), api.OK)
		d.Plan(api.Fate{Step: d.Steps() + 1, Kind: api.FBefore})
		d.Sync()
		want(t, "a call", call(b), api.ErrPower)
		isDead(t, b)
	}
	d := disk.New(60)
	s := store(t, d, 40, 2)
	d.Plan(api.Fate{Step: d.Steps() + 1, Kind: api.FBefore})
	d.Sync()
	if x, e := btree.Open(s); x != nil || e != api.ErrPower {
		t.Errorf("Open = %v, %d", x, e)
	}
}

// Open's errors, in order.
func TestOpen(t *testing.T) {
	s := store(t, disk.New(9), 8, 2)
	if b, e := btree.Open(s); b != nil || e != api.ErrDiskFull {
		t.Errorf("Open in a page = %v, %d", b, e)
	}
	want(t, "Begin", s.Begin(), api.OK)
	if b, e := btree.Open(s); b != nil || e != api.ErrActive {
		t.Errorf("Open within a unit = %v, %d", b, e)
	}
	want(t, "Write", s.Write(0, page.New(0, 1)), api.OK)
	want(t, "Commit", s.Commit(), api.OK)
	if b, e := btree.Open(s); b != nil || e != api.ErrCorrupt {
		t.Errorf("Open of a page that isn't empty = %v, %d", b, e)
	}
	_, s, b := fresh(t, 10, 8, 2)
	unit(t, s, b, "a", "1")
	is(t, open(t, s), "a", "1")
	is(t, b, "a", "1")
	want(t, "Begin", s.Begin(), api.OK)
	if b, e := btree.Open(s); b != nil || e != api.ErrActive {
		t.Errorf("Open of a tree within a unit = %v, %d", b, e)
	}
	want(t, "Commit", s.Commit(), api.OK)
}

// Open makes a tree where page 0 is empty: kind, extra and slots, each alone, make it none.
func TestOpenEmpty(t *testing.T) {
	slot := page.New(0, 0)
	slot.Insert(0, nil)
	for _, g := range []*page.Page{page.New(1, 0), page.New(0, 1), slot} {
		s := store(t, disk.New(30), 20, 2)
		write(t, s, 0, g)
		if b, e := btree.Open(s); b != nil || e != api.ErrCorrupt {
			t.Errorf("Open = %v, %d", b, e)
		}
		if s.Active() {
			t.Error("a unit is under way")
		}
		write(t, s, 0, page.New(256, 0))
		open(t, s)
	}
	d, s, b := fresh(t, 30, 20, 2)
	if s.Active() || s.Dead() {
		t.Error("behind Open a unit is under way")
	}
	want(t, "Check", b.Check(), api.OK)
	steps := d.Steps()
	open(t, s)
	if d.Steps() != steps {
		t.Error("Open of a tree that is there makes steps")
	}
	d.On()
	s = store(t, d, 20, 2)
	if g, e := s.Read(0); e != api.OK || g.Kind() == 0 {
		t.Errorf("a new tree isn't safe: %v, %d", g, e)
	}
}

// write writes pages from a place on, in a unit of their own.
func write(t *testing.T, s *recov.Store, at int, pages ...*page.Page) {
	t.Helper()
	for i, g := range pages {
		want(t, "Begin", s.Begin(), api.OK)
		want(t, "Write", s.Write(at+i, g), api.OK)
		want(t, "Commit", s.Commit(), api.OK)
	}
}

// A new tree for which the log has no room.
func TestOpenLogFull(t *testing.T) {
	full := 0
	for log := 1; log < 8; log++ {
		s := store(t, disk.New(log+4), log, 2)
		for range 3 {
			b, e := btree.Open(s)
			if e == api.ErrLogFull && b == nil {
				full++
			} else if e != api.OK {
				t.Fatalf("Log %d: Open = %v, %d", log, b, e)
			}
			if s.Active() || s.Dead() {
				t.Fatalf("Log %d: a unit is under way", log)
			}
			g, e := s.Read(0)
			if want := b == nil; e != api.OK || (g.Kind() == 0) != want {
				t.Fatalf("Log %d: page 0 has kind %d", log, g.Kind())
			}
			g, _ = s.Read(1)
			if b == nil && g.Kind() != 0 {
				t.Fatalf("Log %d: page 1 has kind %d", log, g.Kind())
			}
		}
	}
	if full == 0 {
		t.Error("no log was full")
	}
}

// P12.6: what is handed in is neither changed nor kept.
func TestArguments(t *testing.T) {
	_, s, b := fresh(t, 60, 40, 2)
	want(t, "Begin", s.Begin(), api.OK)
	mine := func(text string) ([]byte, func()) {
		whole := []byte(text + "behind")
		return whole[:len(text)], func() {
			t.Helper()
			if string(whole) != text+"behind" {
				t.Fatalf("%q was changed: %q", text, whole)
			}
			for i := range whole {
				whole[i] = 'X'
			}
		}
	}
	for _, x := range []string{"b", "a", "", "c", "bb"} {
		key, goneKey := mine(x)
		val, goneVal := mine("value of " + x)
		want(t, "Put", b.Put(key, val), api.OK)
		goneKey()
		goneVal()
	}
	key, gone := mine("a")
	if ok, e := b.Del(key); !ok || e != api.OK {
		t.Fatalf("Del = %t, %d", ok, e)
	}
	gone()
	key, gone = mine("bb")
	if val, ok, e := b.Get(key); !ok || e != api.OK || string(val) != "value of bb" {
		t.Fatalf("Get = %q, %t, %d", val, ok, e)
	}
	gone()
	low, goneLow := mine("b")
	high, goneHigh := mine("c")
	pairs, e := b.Range(low, high, all)
	goneLow()
	goneHigh()
	if told(pairs) != "b=value of b bb=value of bb " || e != api.OK {
		t.Fatalf("Range = %q, %d", told(pairs), e)
	}
	want(t, "Commit", s.Commit(), api.OK)
	ranges(t, b, "", "", all, "=value of  b=value of b bb=value of bb c=value of c ")
}

// P12.6: answers are new memory.
func TestAnswers(t *testing.T) {
	_, s, b := fresh(t, 60, 40, 2)
	unit(t, s, b, "a", "1", "b", "22", "c", "")
	const wanted = "a=1 b=22 c= "
	val, _, _ := b.Get([]byte("b"))
	overwrite(val)
	is(t, b, "b", "22")
	pairs, _ := b.Range(nil, nil, all)
	other, _ := b.Range(nil, nil, all)
	for i := range pairs {
		for _, list := range [][]byte{pairs[i].Key, pairs[i].Val} {
			was := bytes.Clone(list)
			overwrite(list)
			copy(list, was)
			if told(pairs) != wanted || told(other) != wanted {
				t.Fatalf("lists share memory: %q, %q", told(pairs), told(other))
			}
		}
	}
	for i := range pairs {
		overwrite(pairs[i].Key)
		overwrite(pairs[i].Val)
	}
	clear(pairs[:cap(pairs)])
	if told(other) != wanted {
		t.Fatalf("answers share memory: %q", told(other))
	}
	ranges(t, b, "", "", all, wanted)
}

// overwrite writes over a list and its spare room.
func overwrite(b []byte) {
	b = b[:cap(b)]
	for i := range b {
		b[i] = 'X'
	}
}
