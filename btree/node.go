package btree

import (
	"bytes"
	"slices"

	"skein/api"
	"skein/num"
	"skein/page"
)

// What the pages are. Page 0 is the head.
const (
	kindHead = 1
	kindNode = 2
	kindFree = 3
)

const (
	slotBytes   = 2
	lengthBytes = 1 // of a key, since MaxKeyLen is below 128
	// room is what a page has for slots and their items.
	room = api.Sector - 18
	// leastCost is what a pair counts at least, so that no page that has the room for its pairs lacks the slots.
	leastCost = room/api.MaxSlots + 1
	// leastFill is what every node but the root bears at least. When two nodes share what one alone can't bear, each gets more than that: half of it, but for half of the greatest pair.
	leastFill = room / 3
)

// node is a page of the tree: a leaf, if its level is 0. Else the values of its pairs are the numbers of pages of the level below, and the keys are the least ones that may stand in these.
type node struct {
	level     uint32
	pairs     []api.Pair
	low, high []byte // its keys, and those below it, stand from low on and ahead of high (no bytes: no bound)
}

// parse reads a node.
func parse(g *page.Page) (*node, bool) {
	if g.Kind() != kindNode {
		return nil, false
	}
	n := &node{level: g.Extra()}
	for i := range g.Len() {
		item, _ := g.Item(i)
		x, ok := n.parsePair(item)
		if !ok || i > 0 && bytes.Compare(n.pairs[i-1].Key, x.Key) >= 0 {
			return nil, false
		}
		n.pairs = append(n.pairs, x)
	}
	return n, n.cost() <= room
}

func (n *node) parsePair(item []byte) (api.Pair, bool) {
	key, at, e := num.GetText(item, 0, api.MaxKeyLen)
	if e != api.OK {
		return api.Pair{}, false
	}
	x := api.Pair{Key: key, Val: item[at:]}
	if n.level == 0 {
		return x, len(x.Val) <= api.MaxValLen
	}
	below, end, e := num.Get(x.Val, 0)
	return x, e == api.OK && end == len(x.Val) && below < api.MaxSectors
}

// upper is a pair of a node above the leaves.
func upper(key []byte, at int) api.Pair {
	return api.Pair{Key: key, Val: num.Put(uint64(at))}
}

// below is the page that the i-th pair of a node above the leaves names.
func (n *node) below(i int) int {
	at, _, _ := num.Get(n.pairs[i].Val, 0)
	return int(at)
}

// page is the node as a page.
func (n *node) page() *page.Page {
	g := page.New(kindNode, n.level)
	for i, x := range n.pairs {
		g.Insert(i, append(num.PutText(x.Key), x.Val...))
	}
	return g
}

// costOf is what a pair takes of a page's room.
func costOf(x api.Pair) int {
	return max(slotBytes+lengthBytes+len(x.Key)+len(x.Val), leastCost)
}

// cost is what all pairs take.
func (n *node) cost() int {
	sum := 0
	for _, x := range n.pairs {
		sum += costOf(x)
	}
	return sum
}

// find is the place of a key among the pairs, or where it would stand.
func (n *node) find(key []byte) (int, bool) {
	return slices.BinarySearchFunc(n.pairs, key, func(x api.Pair, key []byte) int {
		return bytes.Compare(x.Key, key)
	})
}

// way is the place of the pair below which a key has to stand; the first one, if it stands ahead of all.
func (n *node) way(key []byte) int {
	i, found := n.find(key)
	if !found {
		i--
	}
	return max(i, 0)
}

// isIn tells whether all keys are within the node's bounds. Above the leaves the first one is the lower bound itself.
func (n *node) isIn() bool {
	if len(n.pairs) == 0 {
		return true
	}
	first, last := n.pairs[0].Key, n.pairs[len(n.pairs)-1].Key
	if c := bytes.Compare(n.low, first); c > 0 || n.level > 0 && c != 0 {
		return false
	}
	return len(n.high) == 0 || bytes.Compare(last, n.high) < 0
}

// divide is the pairs in as many parts as pages are needed for them, each of about the same cost.
func (n *node) divide() [][]api.Pair {
	total := n.cost()
	if total <= room {
		return [][]api.Pair{n.pairs}
	}
	i, left := 0, 0
	for {
		c := costOf(n.pairs[i])
		// The pair whose middle is the first one beyond that of all is the first one of the right part.
		if 2*left+c >= total {
			return [][]api.Pair{n.pairs[:i], n.pairs[i:]}
		}
		left += c
		i++
	}
}
