package btree

import (
	"maps"
	"slices"

	"skein/api"
	"skein/num"
	"skein/page"
	"skein/recov"
)

const (
	headPage  = 0
	firstRoot = 1
)

// The numbers of the head.
const (
	rootAt  = iota // the root's page
	freeAt         // the first page that was given back, 0 if there is none; each names the next one
	freshAt        // the first page of those that were never taken
	headLen
)

type head [headLen]int

// draft is what one call sees of the pages: those of the store, and over them those that it is to write. All are drafted ahead of the first one that is written, so that a page that is missing is told ahead of a log that is full.
type draft struct {
	store     *recov.Store
	had, head head // the head's numbers, as the store has them, and as they are to be
	pages     map[int]*page.Page
}

// newDraft is a draft for a tree that is to be made.
func newDraft(s *recov.Store) *draft {
	return &draft{
		store: s,
		head:  head{rootAt: firstRoot, freshAt: firstRoot + 1},
		pages: map[int]*page.Page{},
	}
}

// readDraft is a draft over the tree that lies in a store.
func readDraft(s *recov.Store) (*draft, api.Errno) {
	d := newDraft(s)
	g, e := s.Read(headPage)
	if e != api.OK {
		return nil, e
	}
	h, ok := parseHead(g)
	if !ok || h[freshAt] > s.Pages() || !h.isTaken(h[rootAt]) || h[freeAt] > 0 && !h.isTaken(h[freeAt]) {
		return nil, api.ErrCorrupt
	}
	d.had, d.head = h, h
	return d, api.OK
}

func parseHead(g *page.Page) (head, bool) {
	var h head
	if g.Kind() != kindHead || g.Extra() != 0 || g.Len() != 1 {
		return h, false
	}
	item, _ := g.Item(0)
	at := 0
	for i := range h {
		u, next, e := num.Get(item, at)
		if e != api.OK || u > api.MaxSectors {
			return h, false
		}
		h[i], at = int(u), next
	}
	return h, at == len(item)
}

func (h head) page() *page.Page {
	var item []byte
	for _, n := range h {
		item = append(item, num.Put(uint64(n))...)
	}
	g := page.New(kindHead, 0)
	g.Insert(0, item)
	return g
}

// isTaken tells whether a page is in the tree, or was given back.
func (h head) isTaken(n int) bool { return n > headPage && n < h[freshAt] }

// read is a page as the draft has it.
func (d *draft) read(n int) (*page.Page, api.Errno) {
	if g, ok := d.pages[n]; ok {
		return g, api.OK
	}
	return d.store.Read(n)
}

// put drafts a node.
func (d *draft) put(at int, n *node) { d.pages[at] = n.page() }

// write writes what is drafted, page by page in their order: what a disk does mustn't hang on the order of a map.
func (d *draft) write() api.Errno {
	if d.head != d.had {
		d.pages[headPage] = d.head.page()
	}
	for _, n := range slices.Sorted(maps.Keys(d.pages)) {
		if e := d.store.Write(n, d.pages[n]); e != api.OK {
			return e
		}
	}
	return api.OK
}

// take is a page that is in no use from now on.
func (d *draft) take() (int, api.Errno) {
	n := d.head[freeAt]
	if n == 0 {
		n = d.head[freshAt]
		if n == d.store.Pages() {
			return 0, api.ErrDiskFull
		}
		d.head[freshAt]++
		return n, api.OK
	}
	next, e := d.afterFree(n)
	if e != api.OK {
		return 0, e
	}
	d.head[freeAt] = next
	return n, api.OK
}

// give gives a page back.
func (d *draft) give(n int) {
	d.pages[n] = page.New(kindFree, uint32(d.head[freeAt]))
	d.head[freeAt] = n
}

// afterFree is the page that was given back ahead of one that was given back too.
func (d *draft) afterFree(n int) (int, api.Errno) {
	g, e := d.read(n)
	if e != api.OK {
		return 0, e
	}
	next := g.Extra()
	if g.Kind() != kindFree || g.Len() != 0 || next >= uint32(d.head[freshAt]) {
		return 0, api.ErrCorrupt
	}
	return int(next), api.OK
}

// root is the root's node.
func (d *draft) root() (*node, api.Errno) {
	g, e := d.read(d.head[rootAt])
	if e != api.OK {
		return nil, e
	}
	n, ok := parse(g)
	// A root above the leaves with one page below it would be one too many.
	if !ok || n.level > 0 && len(n.pairs) < 2 || !n.isIn() {
		return nil, api.ErrCorrupt
	}
	return n, api.OK
}

// child is the node that the i-th pair of one names.
func (d *draft) child(of *node, i int) (*node, api.Errno) {
	at := of.below(i)
	if !d.head.isTaken(at) {
		return nil, api.ErrCorrupt
	}
	g, e := d.read(at)
	if e != api.OK {
		return nil, e
	}
	n, ok := parse(g)
	if !ok || n.level != of.level-1 || n.cost() < leastFill {
		return nil, api.ErrCorrupt
	}
	n.low, n.high = of.pairs[i].Key, of.high
	if i+1 < len(of.pairs) {
		n.high = of.pairs[i+1].Key
	}
	if !n.isIn() {
		return nil, api.ErrCorrupt
	}
	return n, api.OK
}
