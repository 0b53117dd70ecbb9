package page_test

import (
	"bytes"
	"encoding/binary"
	"hash/crc32"
	"math"
	"math/rand/v2"
	"testing"

	"skein/api"
	"skein/page"
)

const ahead = 18 // bytes ahead of the slots

// model is a page told in a plainer way.
type model struct {
	lsn   int64
	kind  byte
	extra uint32
	items [][]byte
}

// bytes writes the model by the chapter's form.
func (m *model) bytes() []byte {
	b := binary.LittleEndian.AppendUint64(nil, uint64(m.lsn))
	b = append(b, m.kind)
	b = binary.LittleEndian.AppendUint32(b, m.extra)
	b = append(b, byte(len(m.items)))
	var tail []byte
	for _, item := range m.items {
		tail = append(bytes.Clone(item), tail...)
		b = binary.LittleEndian.AppendUint16(b, uint16(api.Sector-len(tail)))
	}
	b = append(b, make([]byte, api.Sector-4-len(b)-len(tail))...)
	return seal(append(b, tail...))
}

// seal puts the sum ahead of a sector's other bytes.
func seal(rest []byte) []byte {
	return append(binary.LittleEndian.AppendUint32(nil, crc32.ChecksumIEEE(rest)), rest...)
}

// fits tells whether such items have place in a page.
func fits(items [][]byte) bool {
	n := ahead
	for _, item := range items {
		n += 2 + len(item)
	}
	return n <= api.Sector && len(items) <= api.MaxSlots
}

func (m *model) room() int {
	for n := api.MaxItem; n >= 0; n-- {
		if fits(append(m.items[:len(m.items):len(m.items)], make([]byte, n))) {
			return n
		}
	}
	return -1
}

// change does to the model what a call does, and tells the call's error.
func (m *model) change(from, to int, item []byte, put, right bool) api.Errno {
	if !right {
		return api.ErrSlot
	}
	if len(item) > api.MaxItem {
		return api.ErrLong
	}
	var items [][]byte
	items = append(items, m.items[:from]...)
	if put {
		items = append(items, bytes.Clone(item))
	}
	items = append(items, m.items[to:]...)
	if !fits(items) {
		return api.ErrRoom
	}
	m.items = items
	return api.OK
}

func (m *model) insert(i int, item []byte) api.Errno {
	return m.change(i, i, item, true, i >= 0 && i <= len(m.items))
}

func (m *model) replace(i int, item []byte) api.Errno {
	return m.change(i, i+1, item, true, i >= 0 && i < len(m.items))
}

func (m *model) remove(i int) api.Errno {
	return m.change(i, i+1, nil, false, i >= 0 && i < len(m.items))
}

// same tells whether the page answers what the model does.
func same(t *testing.T, p *page.Page, m *model) {
	t.Helper()
	if p.Kind() != int(m.kind) || p.Extra() != m.extra || p.LSN() != m.lsn {
		t.Fatalf("Kind %d, Extra %d, LSN %d, want %d, %d, %d", p.Kind(), p.Extra(), p.LSN(), m.kind, m.extra, m.lsn)
	}
	if p.Len() != len(m.items) || p.Room() != m.room() {
		t.Fatalf("Len %d, Room %d, want %d, %d", p.Len(), p.Room(), len(m.items), m.room())
	}
	for i, want := range m.items {
		if b, e := p.Item(i); !bytes.Equal(b, want) || e != api.OK {
			t.Fatalf("Item(%d) = % x, %d, want % x", i, b, e, want)
		}
	}
	for _, i := range []int{-1, len(m.items), len(m.items) + 1, math.MaxInt, math.MinInt} {
		if b, e := p.Item(i); len(b) != 0 || e != api.ErrSlot {
			t.Fatalf("Item(%d) of %d = % x, %d", i, len(m.items), b, e)
		}
	}
	if got, want := p.Bytes(), m.bytes(); !bytes.Equal(got, want) {
		t.Fatalf("Bytes:\n% x, want\n% x", got, want)
	}
}

// again is the page parsed from its bytes.
func again(t *testing.T, p *page.Page) *page.Page {
	t.Helper()
	q, e := page.Parse(p.Bytes())
	if q == nil || e != api.OK {
		t.Fatalf("Parse of a page's bytes = %v, %d", q, e)
	}
	return q
}

func someBytes(r *rand.Rand, n int) []byte {
	b := make([]byte, n)
	for i := range b {
		b[i] = byte(r.Uint32())
	}
	return b
}

// P8.1, P8.2, P8.4: any calls in any order, against the model; now and then the page is parsed from its bytes.
func TestCallsInAnyOrder(t *testing.T) {
	for seed := range uint64(60) {
		r := rand.New(rand.NewPCG(seed, 8))
		kind, extra := int(int32(r.Uint32())), r.Uint32()
		p, m := page.New(kind, extra), &model{kind: byte(kind), extra: extra}
		same(t, p, m)
		longest := []int{2, 8, 60, 203}[seed%4]
		for range 300 {
			i, item := r.IntN(p.Len()+3)-1, someBytes(r, r.IntN(longest))
			if room := p.Room(); room >= 0 && r.IntN(8) == 0 {
				item = someBytes(r, room+r.IntN(2))
			}
			var got, want api.Errno
			switch k := r.IntN(20); {
			case k < 10:
				got, want = p.Insert(i, item), m.insert(i, item)
			case k < 14:
				got, want = p.Replace(i, item), m.replace(i, item)
			case k < 17:
				got, want = p.Remove(i), m.remove(i)
			case k < 18:
				m.extra = r.Uint32()
				p.SetExtra(m.extra)
			case k < 19:
				lsn := int64(r.Uint64())
				m.lsn = max(lsn, 0)
				p.SetLSN(lsn)
			default:
				p = again(t, p)
			}
			if got != want {
				t.Fatalf("slot %d, %d bytes: %d, want %d", i, len(item), got, want)
			}
			same(t, p, m)
		}
	}
}

// P8.1: kinds, extras and LSNs.
func TestHead(t *testing.T) {
	for _, x := range [][2]int{{0, 0}, {1, 1}, {255, 255}, {256, 0}, {257, 1}, {-1, 255}, {-256, 0}, {-257, 255}, {math.MaxInt, 255}, {math.MinInt, 0}, {1 << 32, 0}} {
		p := page.New(x[0], math.MaxUint32)
		if p.Kind() != x[1] || p.Extra() != math.MaxUint32 || p.LSN() != 0 || p.Len() != 0 {
			t.Errorf("New(%d): Kind %d, Extra %d, LSN %d, Len %d", x[0], p.Kind(), p.Extra(), p.LSN(), p.Len())
		}
	}
	p := page.New(0, 0)
	for _, x := range [][2]int64{{0, 0}, {1, 1}, {-1, 0}, {1 << 38, 1 << 38}, {math.MinInt64, 0}, {math.MaxInt64, math.MaxInt64}} {
		p.SetLSN(x[0])
		if p.LSN() != x[1] || again(t, p).LSN() != x[1] {
			t.Errorf("SetLSN(%d): %d", x[0], p.LSN())
		}
	}
	for _, x := range []uint32{7, 0, math.MaxUint32, 1 << 31} {
		p.SetExtra(x)
		if p.Extra() != x || again(t, p).Extra() != x {
			t.Errorf("SetExtra(%d): %d", x, p.Extra())
		}
	}
}

// fill puts items of so many bytes in, until there are count.
func fill(t *testing.T, p *page.Page, count, size int) {
	t.Helper()
	for range count {
		if e := p.Insert(p.Len(), make([]byte, size)); e != api.OK {
			t.Fatalf("Insert of %d bytes at %d = %d", size, p.Len(), e)
		}
	}
}

// P8.1, P8.4: errors, in their order.
func TestErrors(t *testing.T) {
	p := page.New(0, 0)
	long, longest := make([]byte, api.MaxItem+1), make([]byte, api.MaxItem)
	fill(t, p, 2, api.MaxItem)
	before := p.Bytes()
	for _, x := range []struct {
		got, want api.Errno
	}{
		{p.Insert(-1, long), api.ErrSlot},
		{p.Insert(3, long), api.ErrSlot},
		{p.Insert(math.MaxInt, nil), api.ErrSlot},
		{p.Insert(math.MinInt, nil), api.ErrSlot},
		{p.Insert(2, long), api.ErrLong},
		{p.Insert(0, make([]byte, 1<<20)), api.ErrLong},
		{p.Insert(0, longest), api.ErrRoom},
		{p.Replace(-1, long), api.ErrSlot},
		{p.Replace(2, long), api.ErrSlot},
		{p.Replace(2, longest), api.ErrSlot},
		{p.Replace(1, long), api.ErrLong},
		{p.Replace(1, longest), api.OK},
		{p.Remove(-1), api.ErrSlot},
		{p.Remove(2), api.ErrSlot},
		{p.Remove(math.MaxInt), api.ErrSlot},
	} {
		if x.got != x.want {
			t.Errorf("%d, want %d", x.got, x.want)
		}
	}
	if !bytes.Equal(p.Bytes(), before) {
		t.Error("what was refused has changed the page")
	}
}

// P8.4: just what fits, to the last byte.
func TestRoom(t *testing.T) {
	p := page.New(0, 0)
	if p.Room() != api.MaxItem {
		t.Errorf("Room of an empty page %d", p.Room())
	}
	fill(t, p, 2, api.MaxItem)
	left := api.Sector - ahead - 2*(2+api.MaxItem) - 2
	if p.Room() != left {
		t.Errorf("Room %d, want %d", p.Room(), left)
	}
	if e := p.Insert(1, make([]byte, left+1)); e != api.ErrRoom {
		t.Errorf("Insert of one byte too many = %d", e)
	}
	if e := p.Insert(1, make([]byte, left-2)); e != api.OK || p.Room() != 0 {
		t.Errorf("Insert = %d, Room %d", e, p.Room())
	}
	if e := p.Replace(1, make([]byte, left-1)); e != api.OK || p.Room() != -1 {
		t.Errorf("Replace = %d, Room %d: one byte is too few for a slot", e, p.Room())
	}
	if e := p.Insert(0, nil); e != api.ErrRoom {
		t.Errorf("Insert of no bytes = %d", e)
	}
	if e := p.Replace(1, make([]byte, left)); e != api.OK || p.Room() != -1 {
		t.Errorf("Replace = %d, Room %d", e, p.Room())
	}
	before := p.Bytes()
	if e := p.Replace(1, make([]byte, left+1)); e != api.ErrRoom || !bytes.Equal(p.Bytes(), before) {
		t.Errorf("Replace of one byte too many = %d", e)
	}
	if again(t, p).Room() != -1 {
		t.Error("a full page, parsed")
	}
	if e := p.Remove(0); e != api.OK || p.Room() != api.MaxItem {
		t.Errorf("Remove = %d, Room %d", e, p.Room())
	}
}

// P8.1, P8.4: as many slots as may be; those that are there may still be changed.
func TestManySlots(t *testing.T) {
	p := page.New(0, 0)
	fill(t, p, api.MaxSlots-1, 0)
	if p.Room() != api.MaxItem {
		t.Errorf("Room %d", p.Room())
	}
	fill(t, p, 1, 1)
	if p.Room() != -1 {
		t.Errorf("Room of %d slots %d", p.Len(), p.Room())
	}
	if e := p.Insert(3, nil); e != api.ErrRoom {
		t.Errorf("Insert behind the last slot = %d", e)
	}
	if e := p.Insert(3, make([]byte, api.MaxItem+1)); e != api.ErrLong {
		t.Errorf("Insert of a long item = %d", e)
	}
	if e := p.Replace(3, []byte("ab")); e != api.OK {
		t.Errorf("Replace = %d", e)
	}
	if q := again(t, p); q.Len() != api.MaxSlots || q.Room() != -1 {
		t.Errorf("Len %d, Room %d", q.Len(), q.Room())
	}
	if e := p.Remove(0); e != api.OK || p.Len() != api.MaxSlots-1 || p.Room() != api.MaxItem {
		t.Errorf("Remove = %d, Len %d, Room %d", e, p.Len(), p.Room())
	}
	if b, e := p.Item(2); string(b) != "ab" || e != api.OK {
		t.Errorf("Item = %q, %d", b, e)
	}
}

// isPage reads bytes by the chapter's list of what is none.
func isPage(b []byte) bool {
	if len(b) != api.Sector || binary.LittleEndian.Uint32(b) != crc32.ChecksumIEEE(b[4:]) {
		return false
	}
	if binary.LittleEndian.Uint64(b[4:])>>63 != 0 || b[17] > api.MaxSlots {
		return false
	}
	slots, end := ahead+2*int(b[17]), api.Sector
	for i := ahead; i < slots; i += 2 {
		begin := int(binary.LittleEndian.Uint16(b[i:]))
		if begin > end || begin < slots || end-begin > api.MaxItem {
			return false
		}
		end = begin
	}
	return bytes.Count(b[slots:end], []byte{0}) == end-slots
}

// parses tells whether Parse answers as isPage does, and what it reads is written back.
func parses(t *testing.T, b []byte) bool {
	t.Helper()
	p, e := page.Parse(b)
	if isPage(b) {
		if p == nil || e != api.OK || !bytes.Equal(p.Bytes(), b) {
			t.Fatalf("Parse = %v, %d at\n% x", p, e, b)
		}
		return true
	}
	if p != nil || e != api.ErrPage {
		t.Fatalf("Parse = %v, %d at what is no page:\n% x", p, e, b)
	}
	return false
}

// somePage is a page of some items.
func somePage(r *rand.Rand, count, longest int) *page.Page {
	p := page.New(int(r.Uint32()), r.Uint32())
	p.SetLSN(int64(r.Uint64()))
	for range count {
		p.Insert(r.IntN(p.Len()+1), someBytes(r, r.IntN(longest+1)))
	}
	return p
}

// P8.1, P8.2: Parse at all bytes; in sectors with a right sum a few bytes are others.
func TestParse(t *testing.T) {
	r := rand.New(rand.NewPCG(8, 1))
	for _, n := range []int{0, 1, 4, 17, 18, 511, 513, 1024, 100000} {
		if parses(t, make([]byte, n)) || parses(t, seal(make([]byte, max(n-4, 0)))) {
			t.Errorf("%d bytes are a page", n)
		}
	}
	parses(t, nil)
	parses(t, make([]byte, api.Sector))
	right := 0
	for range 30000 {
		b := somePage(r, r.IntN(9), r.IntN(90)).Bytes()
		for range r.IntN(3) {
			at := 4 + r.IntN(ahead+20-4)
			if r.IntN(3) == 0 {
				at = 4 + r.IntN(api.Sector-4)
			}
			b[at] = byte(r.IntN(256))
			if r.IntN(2) == 0 {
				b[at] = byte(r.IntN(3))
			}
		}
		if parses(t, seal(b[4:])) {
			right++
		}
	}
	if right < 10000 || right > 25000 {
		t.Errorf("%d of 30000 are pages", right)
	}
	for range 2000 {
		parses(t, someBytes(r, api.Sector))
		parses(t, seal(someBytes(r, api.Sector-4)))
	}
}

// P8.1, P8.2: each of the things that make bytes no page, at its edge.
func TestParseEdges(t *testing.T) {
	sector := func(set func(rest []byte)) []byte {
		b := make([]byte, api.Sector)
		set(b)
		return seal(b[4:])
	}
	slot := func(b []byte, i, begin int) {
		b[17] = max(b[17], byte(i+1))
		binary.LittleEndian.PutUint16(b[ahead+2*i:], uint16(begin))
	}
	for _, x := range []struct {
		name string
		want bool
		set  func(b []byte)
	}{
		{"nothing", true, func(b []byte) {}},
		{"the greatest LSN", true, func(b []byte) { binary.LittleEndian.PutUint64(b[4:], math.MaxInt64) }},
		{"an LSN beyond", false, func(b []byte) { binary.LittleEndian.PutUint64(b[4:], 1<<63) }},
		{"the highest LSN", false, func(b []byte) { binary.LittleEndian.PutUint64(b[4:], math.MaxUint64) }},
		{"an empty item", true, func(b []byte) { slot(b, 0, 512) }},
		{"an item beyond", false, func(b []byte) { slot(b, 0, 513) }},
		{"the longest item", true, func(b []byte) { slot(b, 0, 312) }},
		{"a longer item", false, func(b []byte) { slot(b, 0, 311) }},
		{"two that are equal", true, func(b []byte) { slot(b, 0, 400); slot(b, 1, 400) }},
		{"one behind the one ahead", false, func(b []byte) { slot(b, 0, 400); slot(b, 1, 401) }},
		{"the longest second", true, func(b []byte) { slot(b, 0, 400); slot(b, 1, 200) }},
		{"a longer second", false, func(b []byte) { slot(b, 0, 400); slot(b, 1, 199) }},
		{"up to the slots", true, func(b []byte) { slot(b, 0, 400); slot(b, 1, 200); slot(b, 2, 24) }},
		{"within the slots", false, func(b []byte) { slot(b, 0, 400); slot(b, 1, 200); slot(b, 2, 23) }},
		{"a byte in between", false, func(b []byte) { slot(b, 0, 400); b[399] = 1 }},
		{"a byte behind the slots", false, func(b []byte) { slot(b, 0, 400); b[20] = 1 }},
		{"a byte of the item", true, func(b []byte) { slot(b, 0, 400); b[400] = 1 }},
		{"a byte without items", false, func(b []byte) { b[511] = 1 }},
		{"a byte behind no slots", false, func(b []byte) { b[18] = 1 }},
		{"all slots", true, func(b []byte) {
			for i := range api.MaxSlots {
				slot(b, i, 512)
			}
		}},
		{"a slot more", false, func(b []byte) {
			for i := range api.MaxSlots + 1 {
				slot(b, i, 512)
			}
		}},
		{"255 slots", false, func(b []byte) { b[17] = 255 }},
	} {
		if parses(t, sector(x.set)) != x.want {
			t.Errorf("%s: not %v", x.name, x.want)
		}
	}
	if b := sector(func(b []byte) {}); parses(t, append(b, 0)) || parses(t, b[:511]) {
		t.Error("bytes more, or fewer")
	}
}

// P8.3
func TestTurnedBits(t *testing.T) {
	r := rand.New(rand.NewPCG(8, 3))
	for _, b := range [][]byte{page.New(0, 0).Bytes(), somePage(r, 5, 60).Bytes(), somePage(r, 30, 14).Bytes()} {
		for first := range 8 * api.Sector {
			end := 8 * api.Sector
			if first < 32 {
				end = 32
			}
			for k := range 6 {
				turned := uint64(1) // one bit alone, all bits, and some
				if k == 1 {
					turned = math.MaxUint32
				} else if k > 1 {
					turned = uint64(r.Uint32() | 1)
				}
				c := bytes.Clone(b)
				for i := 0; i < 32 && first+i < end; i++ {
					c[(first+i)/8] ^= byte(turned>>i&1) << ((first + i) % 8)
				}
				if p, e := page.Parse(c); p != nil || e != api.ErrPage {
					t.Fatalf("bits %08x turned from bit %d on: %d", turned, first, e)
				}
			}
		}
	}
}

func TestExample(t *testing.T) {
	p := page.New(1, 7)
	if p.Room() != 200 {
		t.Errorf("Room %d", p.Room())
	}
	p.Insert(0, []byte("b"))
	p.Insert(0, []byte("a"))
	if b, e := p.Item(1); p.Len() != 2 || string(b) != "b" || e != api.OK {
		t.Errorf("Len %d, Item(1) = %q, %d", p.Len(), b, e)
	}
	b := p.Bytes()
	if len(b) != api.Sector || b[17] != 2 || !bytes.Equal(b[18:22], []byte{0xff, 1, 0xfe, 1}) || string(b[510:]) != "ba" {
		t.Errorf("Bytes = % x", b)
	}
	if b[12] != 1 || !bytes.Equal(b[13:17], []byte{7, 0, 0, 0}) {
		t.Errorf("kind and extra: % x", b[12:17])
	}
}

// spoil writes over all the memory of a list, its spare room too.
func spoil(b []byte) {
	b = b[:cap(b)]
	for i := range b {
		b[i] ^= 0xff
	}
}

// P8.5
func TestArgumentsAreTheirOwners(t *testing.T) {
	p := page.New(1, 2)
	item := append(make([]byte, 0, 9), "abc"...)
	p.Insert(0, item)
	p.Insert(1, item[:0])
	p.Insert(2, []byte("x"))
	p.Replace(2, item)
	if !bytes.Equal(item[:9], append([]byte("abc"), make([]byte, 6)...)) {
		t.Error("an item that came in was changed")
	}
	before := p.Bytes()
	spoil(item)
	if !bytes.Equal(p.Bytes(), before) {
		t.Error("an item that came in was kept")
	}
	b := append(p.Bytes(), "more"...)
	q, e := page.Parse(b[:api.Sector])
	if e != api.OK || !bytes.Equal(b, append(p.Bytes(), "more"...)) {
		t.Errorf("Parse = %d, or has changed what came in", e)
	}
	spoil(b)
	if !bytes.Equal(q.Bytes(), before) {
		t.Error("Parse has kept what came in")
	}
	q.Replace(0, []byte("def"))
	q.Insert(0, []byte("ghi"))
	q.Remove(2)
	if !bytes.Equal(p.Bytes(), before) {
		t.Error("pages share items")
	}
}

// P8.5
func TestAnswersAreNew(t *testing.T) {
	first := page.New(1, 2)
	first.Insert(0, []byte("abc"))
	first.Insert(1, []byte("defg"))
	before := first.Bytes()
	for _, p := range []*page.Page{first, again(t, first)} {
		for i := range p.Len() {
			b, _ := p.Item(i)
			spoil(b)
		}
		spoil(p.Bytes())
		if !bytes.Equal(p.Bytes(), before) {
			t.Error("answers share memory with the page")
		}
	}
}
