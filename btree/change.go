package btree

import (
	"slices"

	"skein/api"
)

// change edits the leaf in which a key stands, or would stand. An edit tells whether it has changed anything.
func (t *Tree) change(key []byte, edit func(leaf *node) bool) api.Errno {
	if t.store.Dead() {
		return api.ErrDead
	}
	if !t.store.Active() {
		return api.ErrIdle
	}
	d, e := readDraft(t.store)
	if e != api.OK {
		return e
	}
	n, e := d.root()
	if e != api.OK {
		return e
	}
	changed, e := d.edit(n, key, edit)
	if e == api.OK && changed {
		e = d.layRoot(n)
	}
	if e != api.OK {
		return e
	}
	return d.write()
}

// edit edits the leaf below a node, or the node itself, and drafts all that comes of it below the node. It tells whether the node has changed.
func (d *draft) edit(n *node, key []byte, edit func(leaf *node) bool) (bool, api.Errno) {
	if n.level == 0 {
		return edit(n), api.OK
	}
	i := n.way(key)
	below, e := d.child(n, i)
	if e != api.OK {
		return false, e
	}
	changed, e := d.edit(below, key, edit)
	if e != api.OK || !changed {
		return false, e
	}
	return d.lay(n, i, below)
}

// lay drafts the node below the i-th pair of one, in more pages or fewer than it had if it has grown or shrunk too much. It tells whether the one above has changed.
func (d *draft) lay(above *node, i int, n *node) (bool, api.Errno) {
	from, to := i, i+1
	if n.cost() < leastFill && len(above.pairs) > 1 {
		from = max(i-1, 0)
		to = from + 2
		joined, e := d.join(above, from, i, n)
		if e != api.OK {
			return false, e
		}
		n = joined
	}
	parts := n.divide()
	laid, e := d.place(&node{pairs: above.pairs[from:to]}, n.level, parts)
	if e != api.OK {
		return false, e
	}
	above.pairs = slices.Replace(above.pairs, from, to, laid...)
	return to-from > 1 || len(parts) > 1, api.OK
}

// join is the nodes below two neighbouring pairs as one; that below the i-th is n.
func (d *draft) join(above *node, from, i int, n *node) (*node, api.Errno) {
	left, right := n, n
	var e api.Errno
	if from < i {
		left, e = d.child(above, from)
	} else {
		right, e = d.child(above, from+1)
	}
	if e != api.OK {
		return nil, e
	}
	return &node{level: n.level, pairs: slices.Concat(left.pairs, right.pairs)}, api.OK
}

// place drafts a node's parts in the pages that it had, takes the pages that it lacks and gives back those that are left over. The pairs that name the parts come of it.
func (d *draft) place(had *node, level uint32, parts [][]api.Pair) ([]api.Pair, api.Errno) {
	var laid []api.Pair
	for i, part := range parts {
		key, at := had.pairs[0].Key, 0
		if i > 0 {
			key = part[0].Key
		}
		if i < len(had.pairs) {
			at = had.below(i)
		} else {
			n, e := d.take()
			if e != api.OK {
				return nil, e
			}
			at = n
		}
		d.put(at, &node{level: level, pairs: part})
		laid = append(laid, upper(key, at))
	}
	for i := len(parts); i < len(had.pairs); i++ {
		d.give(had.below(i))
	}
	return laid, api.OK
}

// layRoot drafts the root. A root that needs two pages gets one above it; one that has a single page below it leaves its place to that.
func (d *draft) layRoot(n *node) api.Errno {
	if n.level > 0 && len(n.pairs) == 1 {
		d.give(d.head[rootAt])
		d.head[rootAt] = n.below(0)
		return api.OK
	}
	above := &node{level: n.level + 1, pairs: []api.Pair{upper(nil, d.head[rootAt])}}
	if _, e := d.lay(above, 0, n); e != api.OK {
		return e
	}
	if len(above.pairs) == 1 {
		return api.OK
	}
	at, e := d.take()
	if e != api.OK {
		return e
	}
	d.put(at, above)
	d.head[rootAt] = at
	return api.OK
}
