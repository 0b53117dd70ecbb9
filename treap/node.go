package treap

// node is a node of a row's tree. None that hangs below another one has a greater rank.
type node[T any] struct {
	own, sum        T // what it bears itself, and what its tree bears: itself and all below it
	size            int
	rank            uint64
	up, left, right int // 0: none
}

// known tells whether there is such a node.
func (r *Rope[T]) known(a int) bool { return a > 0 && a < len(r.nodes) }

// seed is what chance says for a node.
func (r *Rope[T]) seed(a int) int {
	if len(r.seeds) == 0 {
		return 0
	}
	return r.seeds[(a-1)%len(r.seeds)]
}

// mix is a node's rank. Its number goes into it, for chance may say the same for all or always more, and then a tree would be as deep as its row is long.
func mix(seed, a int) uint64 {
	x := uint64(seed) + uint64(a)*0x9E3779B97F4A7C15
	x = (x ^ x>>30) * 0xBF58476D1CE4E5B9
	x = (x ^ x>>27) * 0x94D049BB133111EB
	return x ^ x>>31
}

// top is the node on top of a node's tree.
func (r *Rope[T]) top(a int) int {
	for r.nodes[a].up != 0 {
		a = r.nodes[a].up
	}
	return a
}

// tell works out anew what a node's tree bears and how many nodes it has.
func (r *Rope[T]) tell(a int) {
	n := &r.nodes[a]
	n.size = r.nodes[n.left].size + 1 + r.nodes[n.right].size
	n.sum = n.own
	if n.left != 0 {
		n.sum = plus(r.nodes[n.left].sum, n.sum)
	}
	if n.right != 0 {
		n.sum = plus(n.sum, r.nodes[n.right].sum)
	}
}

// hang puts two trees below a node.
func (r *Rope[T]) hang(a, left, right int) {
	r.nodes[a].left, r.nodes[a].right = left, right
	for _, x := range [2]int{left, right} {
		if x != 0 {
			r.nodes[x].up = a
		}
	}
	r.tell(a)
}

// merge makes one tree of two, b's row behind a's; it answers that tree's top.
func (r *Rope[T]) merge(a, b int) int {
	if a == 0 || b == 0 {
		return max(a, b)
	}
	if r.nodes[a].rank > r.nodes[b].rank {
		r.hang(a, r.nodes[a].left, r.merge(r.nodes[a].right, b))
		return a
	}
	r.hang(b, r.merge(a, r.nodes[b].left), r.nodes[b].right)
	return b
}

// split makes two trees of a's: of what stands ahead of a, and of the rest. On the way up each node goes, with what hangs on its other side, on top of the part that it belongs to.
func (r *Rope[T]) split(a int) {
	from, up := a, r.nodes[a].up
	ahead, rest := r.nodes[a].left, a
	r.hang(a, 0, r.nodes[a].right)
	for up != 0 {
		a, up = up, r.nodes[up].up
		if r.nodes[a].right == from {
			r.hang(a, r.nodes[a].left, ahead)
			ahead = a
		} else {
			r.hang(a, rest, r.nodes[a].right)
			rest = a
		}
		from = a
	}
	r.nodes[ahead].up, r.nodes[rest].up = 0, 0
}

// list puts the nodes of a tree behind others.
func (r *Rope[T]) list(out []int, a int) []int {
	if a == 0 {
		return out
	}
	out = append(r.list(out, r.nodes[a].left), a)
	return r.list(out, r.nodes[a].right)
}

// plus is what two bear together. A Plus that panics, as that of a nil T may, tells nothing; the rows stay whole.
func plus[T Summer[T]](a, b T) (sum T) {
	defer func() { recover() }()
	return a.Plus(b)
}

// holds tells whether has does. One that is nil or panics has nothing.
func holds[T any](has func(T) bool, v T) (ok bool) {
	defer func() { recover() }()
	return has(v)
}
