package span

import (
	"math/rand/v2"
	"testing"

	"skein/api"
)

// holdTo holds a forest to what its walks are to be: each begins at its root, goes by each vertex at its distance from there, and ends where it began.
func (f *Forest) holdTo(t *testing.T) {
	t.Helper()
	seen := 0
	for v := range f.verts {
		if f.hangs[v] == 0 {
			seen += f.row(t, v)
		}
	}
	if seen != len(f.verts) || len(f.hangs) != len(f.edges) {
		t.Fatalf("%d vertices in walks, of %d; %d hang by %d edges", seen, len(f.verts), len(f.hangs), len(f.edges))
	}
}

// row holds the walk from a root to what it is to be; it answers how many vertices it goes by.
func (f *Forest) row(t *testing.T, root int) (seen int) {
	t.Helper()
	whose := map[int]int{}
	for v, a := range f.verts {
		whose[a] = v
	}
	list, _ := f.walks.List(f.verts[root])
	depth := int64(0)
	for _, a := range list {
		s, _ := f.walks.Value(a)
		if depth += s.end; depth < 0 {
			t.Fatalf("the walk from %d goes above it", root)
		}
		v, ok := whose[a]
		if !ok {
			continue
		}
		seen++
		if far, e := f.Distance(root, v); far != depth || e != api.OK {
			t.Fatalf("the walk from %d goes by %d at %d, not at %d", root, v, depth, far)
		}
	}
	if depth != 0 || len(list) != 3*seen-2 {
		t.Fatalf("the walk from %d ends at %d; %d places, %d vertices", root, depth, len(list), seen)
	}
	return seen
}

// root is a vertex's root, and how many edges lie between.
func (f *Forest) root(v int) (root, deep int) {
	for f.hangs[v] != 0 {
		e, _ := f.paths.Edge(f.hangs[v])
		v, deep = over(e, v), deep+1
	}
	return v, deep
}

func TestWalks(t *testing.T) {
	for seed := range uint64(8) {
		r := rand.New(rand.NewPCG(seed, 203))
		f := New(int(seed), 1)
		const verts = 20
		for v := range verts {
			f.AddV(v + 1)
		}
		for range 500 {
			id := 1 + r.IntN(verts)
			if f.Link(api.Edge{Id: id, U: 1 + r.IntN(verts), V: 1 + r.IntN(verts), W: 1 + r.Int64N(9)}) == api.ErrExists && r.IntN(3) == 0 {
				f.Cut(id)
			}
			f.holdTo(t)
		}
		for id := 1; id <= verts; id++ {
			f.Cut(id)
		}
		f.holdTo(t)
		if len(f.edges) != 0 {
			t.Fatalf("%d edges are left", len(f.edges))
		}
	}
}

// Of two trees that one is given another root whose end has fewer edges up to its own.
func TestFewTurns(t *testing.T) {
	f := New()
	const half = 15
	for v := 1; v <= 2*half; v++ {
		f.AddV(v)
		if v > 1 && v != half+1 {
			f.Link(api.Edge{Id: v, U: v - 1, V: v, W: 1})
		}
	}
	r := rand.New(rand.NewPCG(20, 205))
	for range 300 {
		u, v := 1+r.IntN(half), half+1+r.IntN(half)
		one, low := f.root(u)
		other, deep := f.root(v)
		if low > deep {
			one, low, other, deep = other, deep, one, low
		}
		if e := f.Link(api.Edge{Id: 1, U: u, V: v, W: 1}); e != api.OK {
			t.Fatalf("Link = %d", e)
		}
		if root, _ := f.root(u); root != other && (low < deep || root != one) {
			t.Fatalf("link of %d and %d: the root is %d; %d is %d edges away, %d is %d", u, v, root, one, low, other, deep)
		}
		f.holdTo(t)
		f.Cut(1)
		f.holdTo(t)
	}
}

// What stands one behind the other bears the same together, however it is taken together.
func TestPlus(t *testing.T) {
	r := rand.New(rand.NewPCG(20, 204))
	for range 2000 {
		list := make([]stretch, 1+r.IntN(12))
		for i := range list {
			if list[i] = vertex(i + 1); r.IntN(3) > 0 {
				list[i] = down(r.Int64N(11) - 5)
			}
		}
		wanted := slow(list)
		for range 5 {
			if told := together(r, list); bare(told) != wanted {
				t.Fatalf("%v bear %v, want %v", list, bare(told), wanted)
			}
		}
	}
}

// together takes some together in any order.
func together(r *rand.Rand, list []stretch) stretch {
	if len(list) == 1 {
		return list[0]
	}
	i := 1 + r.IntN(len(list)-1)
	return together(r, list[:i]).Plus(together(r, list[i:]))
}

// bare is what a stretch tells, but for which vertices it tells it of.
func bare(s stretch) stretch {
	for _, p := range [3]*peak{&s.deep, &s.before, &s.behind} {
		p.v = min(p.v, 1)
	}
	s.span.u, s.span.v = min(s.span.u, 1), min(s.span.v, 1)
	return s
}

// slow is what some bear together, found by looking at each vertex, each place and each two of them.
func slow(list []stretch) stretch {
	depths, all := make([]int64, len(list)), stretch{}
	for i, s := range list {
		all.end += s.end
		depths[i] = all.end
		if all.top = min(all.top, all.end); i == 0 {
			all.top = all.end
		}
	}
	for i, a := range list {
		if a.deep.v == 0 {
			continue
		}
		all.deep = greatest(all.deep, peak{depths[i], 1})
		for j := range depths {
			p := peak{depths[i] - 2*depths[j], 1}
			if j >= i {
				all.before = greatest(all.before, p)
			}
			if j <= i {
				all.behind = greatest(all.behind, p)
			}
		}
		for k, c := range list[i:] {
			if c.deep.v == 0 {
				continue
			}
			for _, least := range depths[i : i+k+1] {
				all.span = farthest(all.span, way{depths[i] + depths[i+k] - 2*least, 1, 1})
			}
		}
	}
	return all
}
