package linkcut

import "skein/api"

// node is a vertex or an edge of a tree. Each tree has a root, and is parted into chains, each leading straight away from the root. A chain's nodes are a splay tree: from left to right they stand in the chain's order, the one next to the root first.
type node struct {
	up     *node    // in its chain's splay tree; of the one on top: the node of another chain on which this chain hangs, nil if it has the root
	down   [2]*node // in its chain's splay tree
	turned bool     // what is below it is yet to change sides
	edges  int      // how many hang on it
	edge   api.Edge // the zero one of a vertex
	// Of itself and all that is below it:
	max api.Edge
	sum complex128
}

// above tells whether an edge is greater than another one. The zero one is below all.
func above(a, b api.Edge) bool { return a.W > b.W || a.W == b.W && a.Id > b.Id }

// step is what a node adds to a sum.
func (n *node) step() complex128 {
	if n.edge == (api.Edge{}) {
		return 0
	}
	return complex(float64(n.edge.W), 1)
}

// tell works out anew what is told of a node and all below it.
func (n *node) tell() {
	n.max, n.sum = n.edge, n.step()
	for _, x := range n.down {
		if x == nil {
			continue
		}
		if above(x.max, n.max) {
			n.max = x.max
		}
		n.sum += x.sum
	}
}

// settle turns what is below a node, if that is yet to be done.
func (n *node) settle() {
	if !n.turned {
		return
	}
	n.turned = false
	n.down[0], n.down[1] = n.down[1], n.down[0]
	for _, x := range n.down {
		if x != nil {
			x.turned = !x.turned
		}
	}
}

// side is where a node hangs in its chain's splay tree; false if it is on top.
func (n *node) side() (int, bool) {
	if n.up != nil {
		for side, x := range n.up.down {
			if x == n {
				return side, true
			}
		}
	}
	return 0, false
}

// lift swaps a node with the one that it hangs on, which hangs on it then. Both are settled.
func (n *node) lift() {
	p := n.up
	side, _ := n.side()
	if over, inner := p.side(); inner {
		p.up.down[over] = n
	}
	n.up, p.up = p.up, n
	p.down[side] = n.down[1-side]
	if p.down[side] != nil {
		p.down[side].up = p
	}
	n.down[1-side] = p
	p.tell()
	n.tell()
}

// rise brings a node on top of its chain's splay tree, and settles it. By two steps up at a time all on the way come nearer to the top, so that many calls are quick together.
func (n *node) rise() {
	for {
		if _, inner := n.side(); !inner {
			n.settle()
			return
		}
		p := n.up
		_, deep := p.side()
		if deep {
			p.up.settle()
		}
		p.settle()
		n.settle()
		if deep {
			n.first(p).lift()
		}
		n.lift()
	}
}

// first is the node that has to be lifted first, of a node and the one that it hangs on: the upper one, if both hang on the same side.
func (n *node) first(p *node) *node {
	lower, _ := n.side()
	upper, _ := p.side()
	if lower == upper {
		return p
	}
	return n
}

// expose makes one chain of the way from the root to a node, which is its last node and on top.
func (n *node) expose() {
	var rest *node
	for x := n; x != nil; x = x.up {
		x.rise()
		x.down[1] = rest // what was there is a chain of its own, that hangs on x
		x.tell()
		rest = x
	}
	n.rise()
}

// lead makes a node the root of its tree. It is on top of its chain then.
func (n *node) lead() {
	n.expose()
	n.turned = !n.turned
	n.settle()
}

// reaches tells whether two nodes are in one tree; the second one's chain is the way between them then.
func (n *node) reaches(to *node) bool {
	n.lead()
	to.expose()
	return n == to || n.up != nil
}

// link makes one tree of two, with a node next to another one.
func (n *node) link(to *node) {
	n.lead()
	to.expose()
	n.up = to
}

// cut makes two trees of one, of two nodes that are next to one another.
func (n *node) cut(from *node) {
	n.lead()
	from.expose()
	n.up, from.down[0] = nil, nil
	from.tell()
}
