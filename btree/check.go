package btree

import "skein/api"

// Check goes through all pages.
func (t *Tree) Check() api.Errno {
	d, e := readDraft(t.store)
	if e != api.OK {
		return e
	}
	c := &check{draft: d, seen: make([]bool, d.head[freshAt])}
	if e := c.checkTree(); e != api.OK {
		return e
	}
	if e := c.checkFree(); e != api.OK {
		return e
	}
	for n := headPage + 1; n < d.head[freshAt]; n++ {
		if !c.seen[n] {
			return api.ErrCorrupt
		}
	}
	return d.checkFresh()
}

// check is a walk through all pages.
type check struct {
	*draft
	seen []bool // by a page's number: it was come by
}

// comesBy tells whether a page is come by for the first time.
func (c *check) comesBy(n int) bool {
	was := c.seen[n]
	c.seen[n] = true
	return !was
}

func (c *check) checkTree() api.Errno {
	c.comesBy(c.head[rootAt])
	n, e := c.root()
	if e != api.OK {
		return e
	}
	return c.checkBelow(n)
}

func (c *check) checkBelow(n *node) api.Errno {
	if n.level == 0 {
		return api.OK
	}
	for i := range n.pairs {
		below, e := c.child(n, i)
		if e != api.OK {
			return e
		}
		if !c.comesBy(n.below(i)) {
			return api.ErrCorrupt
		}
		if e := c.checkBelow(below); e != api.OK {
			return e
		}
	}
	return api.OK
}

func (c *check) checkFree() api.Errno {
	for n := c.head[freeAt]; n != 0; {
		if !c.comesBy(n) {
			return api.ErrCorrupt
		}
		next, e := c.afterFree(n)
		if e != api.OK {
			return e
		}
		n = next
	}
	return api.OK
}

// checkFresh looks at the pages that were never taken. Whatever they have isn't the tree's, but to be taken they have to be pages.
func (d *draft) checkFresh() api.Errno {
	for n := d.head[freshAt]; n < d.store.Pages(); n++ {
		if _, e := d.read(n); e != api.OK {
			return e
		}
	}
	return api.OK
}
