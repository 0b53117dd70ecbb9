package store_test

import (
	"fmt"
	"math"
	"math/rand/v2"
	"strings"
	"testing"

	"skein/api"
	"skein/btree"
	"skein/crc"
	"skein/disk"
	"skein/keys"
	"skein/num"
	"skein/recov"
	"skein/store"
)

// at is the key in the tree of a row's version.
func at(key string, time int64) string {
	b, _ := keys.Version([]byte(key), time)
	return string(b)
}

// big is eight bytes of a number that is no time's, behind a key.
func big(key string, v int64) string {
	b := num.Big(v)
	return key + "\x00\x00" + string(b[:])
}

// laid is a disk with a tree in which some texts stand, keys and values by turns.
func laid(t *testing.T, conf api.Conf, texts ...string) *disk.Disk {
	t.Helper()
	d := disk.New(conf.Log + 30)
	lay(t, d, conf, texts...)
	return d
}

// lay puts texts into the tree on a disk.
func lay(t *testing.T, d *disk.Disk, conf api.Conf, texts ...string) {
	t.Helper()
	pages, e := recov.Open(d, conf)
	want(t, "recov.Open", e, api.OK)
	tree, e := btree.Open(pages)
	want(t, "btree.Open", e, api.OK)
	for i := 0; i < len(texts); i += 2 {
		want(t, "Begin", pages.Begin(), api.OK)
		want(t, "Put", tree.Put([]byte(texts[i]), []byte(texts[i+1])), api.OK)
		want(t, "Commit", pages.Commit(), api.OK)
	}
}

var formConf = api.Conf{Log: 60, Frames: 3}

// What stands in the tree, byte by byte.
func TestForm(t *testing.T) {
	d, s := fresh(t, 60+30, formConf.Log, formConf.Frames)
	if got := lies(t, d, formConf); len(got) != 0 {
		t.Fatalf("in a new table stands %q", told(got))
	}
	apply(t, s, 5, row("a", "hi"), row("", ""), goes("\x00"))
	apply(t, s, 300, row("a", "ho"))
	const wanted = "\x00=\xd8\x04 " +
		"\x00\x00\x7f\xff\xff\xff\xff\xff\xff\xfb=\x01 " +
		"\x00\xff\x00\x00\x7f\xff\xff\xff\xff\xff\xff\xfb=\x00 " +
		"a\x00\x00\x7f\xff\xff\xff\xff\xff\xfe\xd4=\x01ho " +
		"a\x00\x00\x7f\xff\xff\xff\xff\xff\xff\xfb=\x01hi "
	if got := told(lies(t, d, formConf)); got != wanted {
		t.Errorf("in the tree stands %q, want %q", got, wanted)
	}
	sweeps(t, s, 400, 2, 2)
	if got := told(lies(t, d, formConf)); got != "\x00=\xd8\x04 \x00\x00\x7f\xff\xff\xff\xff\xff\xff\xfb=\x01 a\x00\x00\x7f\xff\xff\xff\xff\xff\xfe\xd4=\x01ho " {
		t.Errorf("behind a sweep in the tree stands %q", got)
	}
}

// P13.4: trees that are tables, written by hand.
func TestRightPairs(t *testing.T) {
	for name, x := range map[string]struct {
		texts []string
		last  int64
		now   string
	}{
		"nothing":                    {nil, -1, ""},
		"Last alone":                 {[]string{"\x00", "\x00"}, 0, ""},
		"the greatest Last":          {[]string{"\x00", string(num.PutS(api.MaxTime))}, api.MaxTime, ""},
		"a version below Last":       {[]string{"\x00", "\x08", at("a", 3), "\x01x"}, 4, "a=x "},
		"a version at Last":          {[]string{"\x00", "\x08", at("a", 4), "\x01x"}, 4, "a=x "},
		"a version at 0":             {[]string{"\x00", "\x00", at("a", 0), "\x01"}, 0, "a= "},
		"a row that goes":            {[]string{"\x00", "\x08", at("a", 3), "\x00"}, 4, ""},
		"a row that goes twice":      {[]string{"\x00", "\x08", at("a", 3), "\x00", at("a", 2), "\x00", at("b", 1), "\x01\x00"}, 4, "b=\x00 "},
		"a row without a key":        {[]string{"\x00", "\x08", at("", 3), "\x01x"}, 4, "=x "},
		"the longest row":            {[]string{"\x00", "\x08", at(strings.Repeat("k", 30), 3), "\x01" + strings.Repeat("v", 99)}, 4, strings.Repeat("k", 30) + "=" + strings.Repeat("v", 99) + " "},
		"the greatest time":          {[]string{"\x00", string(num.PutS(api.MaxTime)), at("a", api.MaxTime), "\x01x"}, api.MaxTime, "a=x "},
		"a value like a version's":   {[]string{"\x00", "\x08", at("a", 3), "\x01\x01\x00"}, 4, "a=\x01\x00 "},
		"a key like the one of Last": {[]string{"\x00", "\x08", at("\x00", 3), "\x01x"}, 4, "\x00=x "},
	} {
		d := laid(t, formConf, x.texts...)
		s := open(t, d, formConf)
		if s.Last() != x.last {
			t.Errorf("%s: Last = %d, want %d", name, s.Last(), x.last)
		}
		scans(t, s, "", "", math.MaxInt64, x.now)
		goesOn(t, d, s, formConf, rand.New(rand.NewPCG(1, 1)))
	}
}

// P13.4: trees that are no tables, each wrong in one thing.
func TestWrongPairs(t *testing.T) {
	for name, x := range map[string][]string{
		"Last: no byte":                    {"\x00", ""},
		"Last: below 0":                    {"\x00", string(num.PutS(-1))},
		"Last: far below 0":                {"\x00", string(num.PutS(math.MinInt64))},
		"Last: above the greatest time":    {"\x00", string(num.PutS(api.MaxTime + 1))},
		"Last: far above it":               {"\x00", string(num.PutS(math.MaxInt64))},
		"Last: cut":                        {"\x00", "\x88"},
		"Last: another form":               {"\x00", "\x88\x00"},
		"Last: bytes behind":               {"\x00", "\x0a\x00"},
		"Last: too low":                    {"\x00", "\x04"},
		"a version above Last":             {at("b", 5), "\x01x"},
		"a version that goes above Last":   {at("b", 5), "\x00"},
		"a version far above Last":         {at("", api.MaxTime), "\x01"},
		"a version: no value":              {at("b", 3), ""},
		"a version: another kind":          {at("b", 3), "\x02"},
		"a version: another kind, a value": {at("b", 3), "\xffx"},
		"a version: bytes where it goes":   {at("b", 3), "\x00\x00"},
		"a version: a value where it goes": {at("a", 3), "\x00x"},
		"a key: none":                      {"", "\x01x"},
		"a key: 00 twice":                  {"\x00\x00", "\x01x"},
		"a key: 00 01":                     {"\x00\x01", "\x01x"},
		"a key: no time":                   {"b", "\x01x"},
		"a key: a time cut":                {at("b", 3)[:10], "\x01x"},
		"a key: bytes behind":              {at("b", 3) + "\x00", "\x01x"},
		"a key: no end":                    {"b" + at("", 3)[1:], "\x01x"},
		"a key: 00 alone":                  {"b\x00c" + at("", 3), "\x01x"},
		"a key: 00 fe":                     {"b\x00\xfe" + at("", 3), "\x01x"},
		"a key: below 0":                   {big("b", 1), "\x01x"},
		"a key: far below 0":               {big("b", math.MaxInt64), "\x01x"},
		"a key: above the greatest time":   {big("b", -api.MaxTime-1), "\x01x"},
		"a key: far above it":              {big("b", math.MinInt64), "\x01x"},
	} {
		d := laid(t, formConf, "\x00", "\x08", at("a", 3), "\x01x", at("z", 1), "\x00")
		open(t, d, formConf)
		lay(t, d, formConf, x...)
		if s, e := store.Open(d, formConf); s != nil || e != api.ErrCorrupt {
			t.Errorf("%s: Open = %v, %d", name, s, e)
		}
	}
	d := laid(t, formConf, at("a", 0), "\x01x")
	if s, e := store.Open(d, formConf); s != nil || e != api.ErrCorrupt {
		t.Errorf("a version without Last: Open = %v, %d", s, e)
	}
}

// goesOn holds a store that was opened over something against a model, as it goes on.
func goesOn(t *testing.T, d *disk.Disk, s *store.Store, conf api.Conf, r *rand.Rand) {
	t.Helper()
	m := &model{d: d, s: s, conf: conf, now: tableOf(t, d, conf), fails: never, ends: map[api.Errno]int{}}
	if s.Last() != m.now.last {
		t.Fatalf("Last = %d, want %d", s.Last(), m.now.last)
	}
	m.same(t)
	keys := someKeys(r, 5)
	for key := range m.now.rows {
		keys = append(keys, key)
	}
	for range 2 {
		for range 12 {
			m.call(t, r, shape{most: 3}, keys)
		}
		m.same(t)
		m.anew(t, r, r.IntN(3))
	}
}

// P13.4: over any bytes of a disk Open ends, and what it opens goes on.
func TestAnyBytes(t *testing.T) {
	ends := map[api.Errno]int{}
	for seed := range uint64(700) {
		r := rand.New(rand.NewPCG(seed, 44))
		m := newModel(t, 12+10, api.Conf{Log: 12, Frames: 1 + r.IntN(3)})
		keys := someKeys(r, 12)
		for range r.IntN(40) {
			m.call(t, r, shape{most: 4}, keys)
		}
		if r.IntN(2) == 0 {
			want(t, "Check", m.s.Check(), api.OK)
		}
		data := m.d.All()
		for range 1 + r.IntN(3) {
			mangle(r, data)
		}
		d := disk.Load(data)
		s, e := store.Open(d, m.conf)
		ends[e]++
		if e != api.OK {
			want(t, "Open", e, api.ErrCorrupt)
			continue
		}
		goesOn(t, d, s, m.conf, r)
	}
	if ends[api.OK] < 100 || ends[api.ErrCorrupt] < 100 {
		t.Errorf("Open's ends: %v", ends)
	}
	for seed := range uint64(200) { // noise alone
		r := rand.New(rand.NewPCG(seed, 45))
		data := make([]byte, 1+r.IntN(20*api.Sector))
		for i := range data {
			data[i] = byte(r.Uint32())
		}
		if s, e := store.Open(disk.Load(data), api.Conf{Log: 1}); s != nil || e != api.ErrCorrupt && e != api.ErrArg {
			t.Fatalf("Open of noise = %v, %d", s, e)
		}
	}
}

// mangle turns something on a disk: any bit, a sector for another one, or bytes in a sector that gets its sum again.
func mangle(r *rand.Rand, data []byte) {
	sector := func() []byte { return data[r.IntN(len(data)/api.Sector)*api.Sector:][:api.Sector] }
	b := sector()
	switch r.IntN(6) {
	case 0:
		b[r.IntN(api.Sector)] ^= 1 << r.IntN(8)
	case 1:
		copy(b, sector())
	case 2:
		clear(b)
	case 3:
		b[4+r.IntN(16)] ^= 1 << r.IntN(8)
		copy(b, crc.Seal(b[4:]))
	case 4, 5:
		for range 1 + r.IntN(3) {
			b[14+r.IntN(498)] = []byte{0, 1, byte(r.IntN(256))}[r.IntN(3)]
		}
		copy(b, crc.Seal(b[4:]))
	}
}

// P13.4: tables of which a few bytes are others, within a tree that is right.
func TestMangledPairs(t *testing.T) {
	ends := map[api.Errno]int{}
	for seed := range uint64(400) {
		r := rand.New(rand.NewPCG(seed, 46))
		texts := []string{"\x00", "\x0a", at("a", 3), "\x01x", at("a", 2), "\x00", at("b\x00", 5), "\x01" + fmt.Sprint(seed), at("c", 1), "\x01"}
		for range 1 + r.IntN(2) {
			i := r.IntN(len(texts))
			b := []byte(texts[i])
			b[r.IntN(len(b))] += []byte{1, 2, 255, byte(r.IntN(256))}[r.IntN(4)]
			texts[i] = string(b)
		}
		d := laid(t, formConf, texts...)
		s, e := store.Open(d, formConf)
		ends[e]++
		if e != api.OK {
			want(t, "Open", e, api.ErrCorrupt)
			continue
		}
		goesOn(t, d, s, formConf, r)
	}
	if ends[api.OK] < 50 || ends[api.ErrCorrupt] < 50 {
		t.Errorf("Open's ends: %v", ends)
	}
}
