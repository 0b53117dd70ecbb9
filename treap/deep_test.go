package treap

import (
	"testing"

	"skein/api"
)

// undo turns back a number that was put to itself, moved so far to the right.
func undo(x uint64, by uint) uint64 {
	y := x
	for range 64 / by {
		y = x ^ y>>by
	}
	return y
}

// odds turns back a multiplication by an odd number.
func odds(x, by uint64) uint64 {
	turned := by
	for range 6 {
		turned *= 2 - by*turned
	}
	return x * turned
}

// seedFor is what chance has to say for a node to get a rank.
func seedFor(rank uint64, a int) int {
	x := odds(undo(rank, 31), 0x94D049BB133111EB)
	x = odds(undo(x, 27), 0xBF58476D1CE4E5B9)
	return int(undo(x, 30) - uint64(a)*0x9E3779B97F4A7C15)
}

// P1, P15.1: chance at its worst: trees that are as deep as their rows are long.
func TestWorstChance(t *testing.T) {
	const many = api.MaxNodes
	for name, rank := range map[string]func(a int) int{
		"same":    func(int) int { return 5 },
		"rising":  func(a int) int { return a },
		"falling": func(a int) int { return many - a },
		"inward":  func(a int) int { return max(a-many/2, many/2-a) },
	} {
		seeds := make([]int, many)
		for i := range seeds {
			seeds[i] = seedFor(uint64(rank(i+1)), i+1)
		}
		r := New[Sum](seeds...)
		for a := 1; a <= many; a++ {
			if _, e := r.Make(Sum{N: 1}); e != api.OK || r.nodes[a].rank != uint64(rank(a)) {
				t.Fatalf("%s: node %d has the rank %d", name, a, r.nodes[a].rank)
			}
		}
		// Row by row, always two of the same length, so that it takes no more than that many times the deepest way.
		for step := 1; step < many; step *= 2 {
			for a := 1; a+step <= many; a += 2 * step {
				if r.Join(a, a+step) != api.OK {
					t.Fatalf("%s: Join(%d, %d)", name, a, a+step)
				}
			}
		}
		row, e := r.List(many / 2)
		if len(row) != many || e != api.OK {
			t.Fatalf("%s: List has %d nodes", name, len(row))
		}
		for i, a := range row {
			if a != i+1 {
				t.Fatalf("%s: at %d stands %d", name, i, a)
			}
		}
		for _, a := range []int{2, many / 3, many / 2, many} {
			if r.Cut(a) != api.OK {
				t.Fatalf("%s: Cut(%d)", name, a)
			}
			if n, _ := r.Size(1); n != a-1 {
				t.Fatalf("%s: Size = %d, want %d", name, n, a-1)
			}
			if all, _ := r.All(a); all.N != int64(many-a+1) {
				t.Fatalf("%s: All = %v, want %d", name, all, many-a+1)
			}
			if at, _ := r.At(many, many-a); at != many {
				t.Fatalf("%s: At = %d", name, at)
			}
			if i, _ := r.Index(many); i != many-a {
				t.Fatalf("%s: Index = %d, want %d", name, i, many-a)
			}
			if r.Join(1, a) != api.OK {
				t.Fatalf("%s: Join(1, %d)", name, a)
			}
		}
	}
}

// depth is how deep a node's tree is.
func depth[T Summer[T]](r *Rope[T], a int) int {
	if a == 0 {
		return 0
	}
	return 1 + max(depth(r, r.nodes[a].left), depth(r, r.nodes[a].right))
}

// Where chance says the same for all, always more or always less, trees are as shallow as by any other chance.
func TestShallow(t *testing.T) {
	const many = 1 << 14
	var rising, falling []int
	for i := range many {
		rising = append(rising, i)
		falling = append(falling, -i)
	}
	for name, seeds := range map[string][]int{"none": nil, "same": {9}, "two": {1, 2}, "rising": rising, "falling": falling} {
		r := New[Sum](seeds...)
		r.Make(Sum{})
		for a := 2; a <= many; a++ {
			r.Make(Sum{})
			r.Join(1, a)
		}
		if d := depth(r, r.top(1)); d > 60 {
			t.Errorf("%s: %d nodes lie %d deep", name, many, d)
		}
	}
}

// What is kept of chance is no more than the nodes that may be made need.
func TestKept(t *testing.T) {
	seeds := make([]int, 2*api.MaxNodes)
	r := New[Sum](seeds...)
	seeds[0] = 7
	if len(r.seeds) != api.MaxNodes || r.seeds[0] != 0 {
		t.Errorf("%d seeds are kept, the first is %d", len(r.seeds), r.seeds[0])
	}
	seeds = []int{4, 5, 6}
	r = New[Sum](seeds[:2]...)
	for i, wanted := range []int{4, 5, 4, 5, 4} {
		if got := r.seed(i + 1); got != wanted {
			t.Errorf("for node %d chance says %d, want %d", i+1, got, wanted)
		}
	}
}
