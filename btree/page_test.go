package btree_test

import (
	"bytes"
	"fmt"
	"math"
	"math/rand/v2"
	"strings"
	"testing"

	"skein/api"
	"skein/btree"
	"skein/disk"
	"skein/num"
	"skein/page"
	"skein/recov"
)

// The kinds of the tree's pages.
const (
	kindHead = 1
	kindNode = 2
	kindFree = 3
)

// with is a page with these items.
func with(kind int, extra uint32, items ...[]byte) *page.Page {
	g := page.New(kind, extra)
	for i, item := range items {
		g.Insert(i, item)
	}
	return g
}

// join is bytes one behind the other.
func join(parts ...[]byte) []byte { return bytes.Join(parts, nil) }

// head is page 0.
func head(numbers ...uint64) *page.Page {
	var item []byte
	for _, n := range numbers {
		item = append(item, num.Put(n)...)
	}
	return with(kindHead, 0, item)
}

var hundred = []byte(strings.Repeat("v", api.MaxValLen))

// pair is the item of a key in a leaf, and below the one of a page, the least key in it, in a node above.
func pair(key string, val []byte) []byte { return join(num.PutText([]byte(key)), val) }
func below(key string, n uint64) []byte  { return join(num.PutText([]byte(key)), num.Put(n)) }

// leaf is a leaf of some keys, each with a value of a hundred bytes.
func leaf(keys ...string) *page.Page {
	g := page.New(kindNode, 0)
	for i, key := range keys {
		g.Insert(i, pair(key, hundred))
	}
	return g
}

// node is a node of the first level above the leaves.
func node(items ...[]byte) *page.Page { return with(kindNode, 1, items...) }

const pages = 9

// right are the pages of a tree of two leaves, two pages that were given back, and three that were never taken.
func right() map[int]*page.Page {
	return map[int]*page.Page{
		0: head(3, 4, 6),
		1: leaf("a", "b"),
		2: leaf("d", "e"),
		3: node(below("", 1), below("c", 2)),
		4: with(kindFree, 5),
		5: with(kindFree, 0),
	}
}

// lay writes pages into a store, each in a unit of its own.
func lay(t *testing.T, s *recov.Store, what map[int]*page.Page) {
	t.Helper()
	for n := range s.Pages() {
		if g := what[n]; g != nil {
			write(t, s, n, g)
		}
	}
}

// empties is a node of so many leaves' entries with a byte as a key and no value.
func empties(n int) *page.Page {
	g := page.New(kindNode, 0)
	for i := range n {
		g.Insert(i, pair(string([]byte{byte(i)}), nil))
	}
	return g
}

// P12.5: pages that are a tree, written by hand.
func TestRightPages(t *testing.T) {
	for name, x := range map[string]map[int]*page.Page{
		"as it is":                   {},
		"given back in other order":  {0: head(3, 5, 6), 4: with(kindFree, 0), 5: with(kindFree, 4)},
		"a key at its bound":         {2: leaf("c", "d")},
		"a key short of its bound":   {1: leaf("a", "b\xff\xff")},
		"never taken, but not empty": {6: leaf("z", "a"), 7: node(), 8: head(1, 2, 3)},
		"a leaf with all its room":   {1: with(kindNode, 0, pair("a", hundred), pair("aa", hundred), pair("ab", hundred), pair("ac", hundred), pair("ad", hundred[:494-416-10]))},
		"a leaf with the least":      {1: with(kindNode, 0, pair("a", hundred), pair("b", hundred[:164-104-4]))},
		"nothing given back":         {0: head(3, 0, 6), 4: leaf("e", "f"), 5: leaf("g", "h"), 3: node(below("", 1), below("c", 2), below("e", 4), below("g", 5)), 2: leaf("c", "d")},
		"a root alone":               {0: head(3, 4, 6), 3: leaf(), 1: with(kindFree, 0), 2: with(kindFree, 1), 5: with(kindFree, 2)},
		"a root of a pair":           {0: head(1, 0, 2), 1: with(kindNode, 0, pair("", nil))},
		"a root of 98 pairs":         {0: head(1, 0, 2), 1: empties(98)},
	} {
		s := store(t, disk.New(pages+400), 400, 3)
		lay(t, s, right())
		lay(t, s, x)
		b, e := btree.Open(s)
		if b == nil || e != api.OK {
			t.Fatalf("%s: Open = %v, %d", name, b, e)
		}
		goesOn(t, s, b, rand.New(rand.NewPCG(3, 3)), 40)
	}
}

// goesOn holds a tree of some pairs against a model, as they go on.
func goesOn(t *testing.T, s *recov.Store, b *btree.Tree, r *rand.Rand, rounds int) {
	t.Helper()
	pairs, e := b.Range(nil, nil, all)
	want(t, "Range", e, api.OK)
	m := &model{s: s, b: b, now: map[string]string{}}
	x := shape{"", 12, 1, 3, 26, 100, 0, 0, 0, ""}
	keys := x.keysOf(r)
	for _, p := range pairs {
		m.now[string(p.Key)] = string(p.Val)
		keys = append(keys, string(p.Key))
	}
	m.same(t)
	for range rounds {
		key := keys[r.IntN(len(keys))]
		val := x.valueOf(r)
		grows := r.IntN(3) == 0
		m.single(t, func() bool {
			if grows {
				return m.put(t, key, val)
			}
			return m.del(t, key)
		})
		m.same(t)
	}
}

// P12.5: pages that are no tree, each wrong in one thing.
func TestWrongPages(t *testing.T) {
	many := []byte{1, 0x80}
	for name, x := range map[string]map[int]*page.Page{
		"head: kind":                {0: with(kindNode, 0, []byte{3, 4, 6})},
		"head: extra":               {0: with(kindHead, 1, []byte{3, 4, 6})},
		"head: no slot":             {0: with(kindHead, 0)},
		"head: two slots":           {0: with(kindHead, 0, []byte{3, 4, 6}, nil)},
		"head: a number too few":    {0: head(3, 4)},
		"head: a number too many":   {0: head(3, 4, 6, 0)},
		"head: a number cut":        {0: with(kindHead, 0, []byte{3, 4, 0x86})},
		"head: a number's form":     {0: with(kindHead, 0, []byte{3, 4, 0x86, 0})},
		"head: no root":             {0: head(0, 4, 6)},
		"head: root never taken":    {0: head(6, 4, 6)},
		"head: root beyond":         {0: head(1<<63, 4, 6)},
		"head: root another":        {0: head(1, 4, 6)},
		"head: root given back":     {0: head(4, 4, 6)},
		"head: free never taken":    {0: head(3, 6, 6)},
		"head: free beyond":         {0: head(3, math.MaxUint64, 6)},
		"head: free is the root":    {0: head(3, 3, 6)},
		"head: free is a leaf":      {0: head(3, 1, 6)},
		"head: free is forgotten":   {0: head(3, 0, 6)},
		"head: one free forgotten":  {0: head(3, 5, 6)},
		"head: fresh beyond":        {0: head(3, 4, pages+1)},
		"head: fresh far beyond":    {0: head(3, 4, 1<<63+6)},
		"head: fresh too many":      {0: head(3, 4, 7)},
		"head: fresh too few":       {0: head(3, 4, 5)},
		"head: fresh none":          {0: head(3, 4, 0)},
		"head: fresh the first":     {0: head(1, 0, 1)},
		"free: kind":                {4: with(kindNode, 5)},
		"free: a slot":              {4: with(kindFree, 5, nil)},
		"free: itself":              {4: with(kindFree, 4)},
		"free: round":               {5: with(kindFree, 4)},
		"free: ends early":          {4: with(kindFree, 0)},
		"free: never taken":         {5: with(kindFree, 6)},
		"free: beyond":              {5: with(kindFree, math.MaxUint32)},
		"free: the root":            {5: with(kindFree, 3)},
		"free: a leaf":              {5: with(kindFree, 2)},
		"root: kind":                {3: with(kindFree, 1, below("", 1), below("c", 2))},
		"root: kind of none":        {3: with(0, 1, below("", 1), below("c", 2))},
		"root: no entry":            {3: node()},
		"root: one entry":           {0: head(3, 2, 6), 2: with(kindFree, 4), 3: node(below("", 1))},
		"root: level too low":       {3: with(kindNode, 0, below("", 1), below("c", 2))},
		"root: level too high":      {3: with(kindNode, 2, below("", 1), below("c", 2))},
		"root: level far too high":  {3: with(kindNode, math.MaxUint32, below("", 1), below("c", 2))},
		"root: a bound below":       {3: node(below("a", 1), below("c", 2))},
		"root: bounds fall":         {3: node(below("", 2), below("c", 1))},
		"root: bounds out of order": {3: node(below("", 1), below("d", 2), below("c", 4)), 4: leaf("c", "c0"), 0: head(3, 5, 6)},
		"root: bounds the same":     {3: node(below("", 1), below("", 2))},
		"root: page 0":              {3: node(below("", 1), below("c", 0))},
		"root: itself":              {3: node(below("", 1), below("c", 3))},
		"root: one page twice":      {3: node(below("", 1), below("c", 2), below("f", 2))},
		"root: a page given back":   {3: node(below("", 1), below("c", 2), below("f", 4))},
		"root: a page never taken":  {3: node(below("", 1), below("c", 2), below("f", 6)), 6: leaf("g", "h")},
		"root: a page beyond":       {3: node(below("", 1), below("c", 1<<63+2))},
		"root: no such page":        {3: node(below("", 1), below("c", pages)), 0: head(3, 4, pages+1)},
		"root: a page of 2^32":      {3: node(below("", 1), below("c", 1<<32+2))},
		"root: bytes behind":        {3: node(below("", 1), join(below("c", 2), []byte{0}))},
		"root: no page":             {3: node(below("", 1), num.PutText([]byte("c")))},
		"root: a page's form":       {3: node(below("", 1), join(num.PutText([]byte("c")), []byte{0x82, 0}))},
		"root: a long key":          {3: node(below("", 1), below("c"+strings.Repeat("c", api.MaxKeyLen), 2))},
		"leaf: kind":                {1: with(kindHead, 0, pair("a", hundred), pair("b", hundred))},
		"leaf: level":               {1: with(kindNode, 1, pair("a", hundred), pair("b", hundred))},
		"leaf: as the root":         {1: node(below("", 1), below("c", 2))},
		"leaf: no entry":            {1: leaf()},
		"leaf: one entry":           {1: leaf("a")},
		"leaf: one byte too little": {1: with(kindNode, 0, pair("a", hundred), pair("b", hundred[:164-104-5]))},
		"leaf: out of order":        {1: leaf("b", "a")},
		"leaf: a key twice":         {1: leaf("b", "b")},
		"leaf: a key ahead":         {2: leaf("b", "e")},
		"leaf: a key behind":        {1: leaf("a", "c")},
		"leaf: the other one":       {1: leaf("d", "e"), 2: leaf("a", "b")},
		"leaf: a long key":          {1: leaf("a", "b"+strings.Repeat("b", api.MaxKeyLen))},
		"leaf: a long value":        {1: with(kindNode, 0, pair("a", hundred), join(pair("b", hundred), []byte{1}))},
		"leaf: an empty item":       {1: with(kindNode, 0, pair("a", hundred), pair("b", hundred), nil)},
		"leaf: a key cut":           {1: with(kindNode, 0, pair("a", hundred), pair("b", hundred)[:1])},
		"leaf: a key's form":        {1: with(kindNode, 0, pair("a", hundred), join([]byte{0x81, 0, 'b'}, hundred))},
		"leaf: a length's end":      {1: with(kindNode, 0, pair("a", hundred), pair("b", hundred), many)},
		"a root of 99 pairs":        {0: head(1, 0, 2), 1: empties(99)},
		"a root of 100 pairs":       {0: head(1, 0, 2), 1: empties(100)},
	} {
		s := store(t, disk.New(pages+400), 400, 3)
		lay(t, s, right())
		b := open(t, s)
		want(t, name+": Check ahead", b.Check(), api.OK)
		lay(t, s, x)
		want(t, name+": Check", b.Check(), api.ErrCorrupt)
		if b, e := btree.Open(s); b != nil || e != api.ErrCorrupt {
			t.Errorf("%s: Open = %v, %d", name, b, e)
		}
		anyCalls(t, s, b)
	}
}

// anyCalls calls all that there is, of which nothing is promised but that it ends.
func anyCalls(t *testing.T, s *recov.Store, b *btree.Tree) {
	t.Helper()
	want(t, "Begin", s.Begin(), api.OK)
	for _, key := range []string{"", "a", "c", "b", "e", "\xff", strings.Repeat("c", 40)} {
		b.Get([]byte(key))
		b.Range([]byte(key), nil, all)
		b.Range(nil, []byte(key), 2)
		b.Put([]byte(key), hundred)
		b.Check()
	}
	for _, key := range []string{"", "a", "c", "b", "e", "\xff", strings.Repeat("c", 40)} {
		b.Del([]byte(key))
		b.Check()
	}
	want(t, "Abort", s.Abort(), api.OK)
}

// Pages that are none are told by every call that comes by them.
func TestWrongPagesByCall(t *testing.T) {
	for n := range 4 {
		s := store(t, disk.New(pages+400), 400, 3)
		lay(t, s, right())
		b := open(t, s)
		write(t, s, n, page.New(7, 7))
		for _, key := range []string{"b", "d"} {
			if n == 1 && key == "d" || n == 2 && key == "b" {
				continue
			}
			if val, ok, e := b.Get([]byte(key)); val != nil || ok || e != api.ErrCorrupt {
				t.Errorf("page %d: Get(%q) = %q, %t, %d", n, key, val, ok, e)
			}
			if pairs, e := b.Range(nil, nil, all); pairs != nil || e != api.ErrCorrupt {
				t.Errorf("page %d: Range = %v, %d", n, pairs, e)
			}
			want(t, "Begin", s.Begin(), api.OK)
			want(t, "Put", b.Put([]byte(key), nil), api.ErrCorrupt)
			if ok, e := b.Del([]byte(key)); ok || e != api.ErrCorrupt {
				t.Errorf("page %d: Del(%q) = %t, %d", n, key, ok, e)
			}
			want(t, "Abort", s.Abort(), api.OK)
		}
	}
}

// A sector that bears no page at all, among those that were never taken too.
func TestNoPages(t *testing.T) {
	for n := range pages {
		const log = 100
		d := disk.New(pages + log)
		s := store(t, d, log, 3)
		lay(t, s, right())
		want(t, "Checkpoint", s.Checkpoint(), api.OK)
		d.Write(log+n, []byte("noise"))
		s = store(t, d, log, 3)
		if b, e := btree.Open(s); b != nil || e != api.ErrCorrupt {
			t.Errorf("page %d is none: Open = %v, %d", n, b, e)
		}
	}
	for n := 1; n < pages; n++ {
		d := disk.New(pages + 8)
		d.Write(8+n, []byte("noise"))
		s := store(t, d, 8, 3)
		if b, e := btree.Open(s); b != nil || e != api.ErrCorrupt || s.Active() {
			t.Errorf("page %d is none, page 0 is empty: Open = %v, %d", n, b, e)
		}
		if g, e := s.Read(0); e != api.OK || g.Kind() != 0 {
			t.Errorf("page 0 has kind %d, %d", g.Kind(), e)
		}
	}
}

// P12.5: where page 0 is empty the tree is a new one, whatever lies in the other pages.
func TestNewTreeOverOthers(t *testing.T) {
	s := store(t, disk.New(pages+400), 400, 3)
	what := right()
	what[0] = page.New(0, 0)
	what[7] = head(1, 2, 3)
	lay(t, s, what)
	b := open(t, s)
	ranges(t, b, "", "", all, "")
	for n, g := range what {
		if h, _ := s.Read(n); n > 1 && !bytes.Equal(h.Bytes()[12:], g.Bytes()[12:]) {
			t.Errorf("page %d was changed", n)
		}
	}
	goesOn(t, s, b, rand.New(rand.NewPCG(1, 2)), 300)
}

// P12.5: trees whose pages were mangled.
func TestMangled(t *testing.T) {
	opened, refused := 0, 0
	for seed := range uint64(250) {
		r := rand.New(rand.NewPCG(seed, 77))
		m := newModel(t, 300+30, 300, 3)
		x := hard[r.IntN(len(hard))]
		keys := x.keysOf(r)
		m.begin(t)
		for range r.IntN(60) {
			m.put(t, keys[r.IntN(len(keys))], x.valueOf(r))
		}
		for range r.IntN(30) {
			m.del(t, keys[r.IntN(len(keys))])
		}
		m.commit(t)
		for range 1 + r.IntN(3) {
			mangle(t, m.s, r)
		}
		b, e := btree.Open(m.s)
		if e == api.ErrCorrupt {
			refused++
			anyCalls(t, m.s, m.b)
			continue
		}
		want(t, "Open", e, api.OK)
		opened++
		goesOn(t, m.s, b, r, 20)
	}
	if opened < 50 || refused < 50 {
		t.Errorf("%d were opened, %d refused", opened, refused)
	}
}

// mangle changes one of the first pages.
func mangle(t *testing.T, s *recov.Store, r *rand.Rand) {
	t.Helper()
	n := r.IntN(12)
	g, e := s.Read(n)
	want(t, "Read", e, api.OK)
	i := r.IntN(g.Len() + 1)
	switch r.IntN(7) {
	case 0:
		g.SetExtra(uint32(r.IntN(5)))
	case 1:
		g.Remove(i)
	case 2:
		item, _ := g.Item(r.IntN(g.Len() + 1))
		g.Insert(i, item)
	case 3, 4:
		if item, e := g.Item(i); e == api.OK && len(item) > 0 {
			item[r.IntN(len(item))] += byte(1 + r.IntN(3))
			g.Replace(i, item)
		}
	case 5:
		g, _ = s.Read(r.IntN(12))
	case 6:
		if item, e := g.Item(i); e == api.OK && len(item) > 0 {
			g.Replace(i, item[:r.IntN(len(item))])
		}
	}
	write(t, s, n, g)
}

// P12.5: any bytes of a disk.
func TestNoise(t *testing.T) {
	opened := 0
	for seed := range uint64(600) {
		r := rand.New(rand.NewPCG(seed, 78))
		m := newModel(t, 60+20, 60, 3)
		unit(t, m.s, m.b, "a", "1", "b", string(hundred), "c", string(hundred), "d", string(hundred), "e", string(hundred), "f", string(hundred))
		if seed%2 == 0 {
			want(t, "Checkpoint", m.s.Checkpoint(), api.OK)
		}
		data := m.d.Safe()
		for range 1 + r.IntN(3) {
			from := r.IntN(len(data))
			for i := from; i < min(len(data), from+1+r.IntN(700)); i++ {
				data[i] = byte(r.IntN(256) * r.IntN(2))
			}
		}
		s, e := recov.Open(disk.Load(data), m.conf)
		if e != api.OK {
			continue
		}
		b, e := btree.Open(s)
		if e != api.OK {
			want(t, "Open", e, api.ErrCorrupt)
			continue
		}
		opened++
		goesOn(t, s, b, r, 5)
	}
	if opened < 50 {
		t.Errorf("%d were opened", opened)
	}
}

// tall are the pages of a tree of three levels. Its root is full; the bound between the first two nodes below it is the only short one; when the second one loses a leaf it has to share with the first, and the bound grows.
func tall() (map[int]*page.Page, []string) {
	what := map[int]*page.Page{}
	var keys []string
	last := 1
	next := func(g *page.Page) uint64 {
		last++
		what[last] = g
		return uint64(last)
	}
	key := func(i, j, k int) string { return fmt.Sprintf("%c%c%c%037d", 'a'+i, 'a'+j, 'a'+k, 0) }
	root := page.New(kindNode, 2)
	for i, leaves := range []int{10, 5, 4, 4, 4, 4, 4, 4, 4, 4, 4, 4, 4} {
		bound := key(i, 0, 0)
		if i < 2 {
			bound = []string{"", "b"}[i]
		}
		g := page.New(kindNode, 1)
		for j := range leaves {
			pairs := page.New(kindNode, 0)
			for k := range 2 {
				pairs.Insert(k, pair(key(i, j, k), hundred[:40]))
				keys = append(keys, key(i, j, k))
			}
			low := key(i, j, 0)
			if j == 0 {
				low = bound
			}
			g.Insert(j, below(low, next(pairs)))
		}
		root.Insert(i, below(bound, next(g)))
	}
	what[1] = root
	what[0] = head(1, 0, uint64(last+1))
	return what, keys
}

// layTall writes the pages of a tall tree into a store.
func layTall(t *testing.T) (*recov.Store, map[int]*page.Page, []string) {
	t.Helper()
	what, keys := tall()
	s := store(t, disk.New(200+len(what)+2), 200, 3)
	lay(t, s, what)
	return s, what, keys
}

// P12.1: a page that a call has given back is taken within the same call.
func TestGivenBackAndTaken(t *testing.T) {
	s, what, keys := layTall(t)
	m := &model{s: s, b: open(t, s), safe: map[string]string{}, conf: api.Conf{Log: 200}}
	for _, key := range keys {
		m.safe[key] = string(hundred[:40])
	}
	m.now = m.safe
	for i, key := range keys[20:] {
		m.single(t, func() bool { return m.del(t, key) })
		m.same(t)
		if g, _ := s.Read(0); i == 0 && bytes.Equal(g.Bytes()[12:], what[0].Bytes()[12:]) {
			t.Error("the root was not divided")
		}
	}
}

// P12.5: a leaf's bounds are those of all nodes above it.
func TestBoundsFromAbove(t *testing.T) {
	for _, x := range []struct {
		page       int
		key, other string // if there is no key, the leaf's first one stays
		wanted     api.Errno
	}{
		{11, "", "azzz", api.OK},
		{11, "", "b", api.ErrCorrupt},
		{11, "", "bb", api.ErrCorrupt},
		{13, "b", "ba", api.OK},
		{13, "az", "ba", api.ErrCorrupt},
		{17, "", "c", api.OK},
		{17, "", "cb", api.ErrCorrupt},
	} {
		s, what, _ := layTall(t)
		item, _ := what[x.page].Item(0)
		g := with(kindNode, 0, item, pair(x.other, hundred))
		if x.key != "" {
			g.Replace(0, pair(x.key, hundred))
		}
		write(t, s, x.page, g)
		if _, e := btree.Open(s); e != x.wanted {
			t.Errorf("page %d of %q, %q: Open = %d, want %d", x.page, x.key, x.other, e, x.wanted)
		}
	}
}
