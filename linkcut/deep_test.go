package linkcut

import (
	"testing"

	"skein/api"
)

// steps is how many nodes a call goes up from a node.
func steps(n *node) (count int) {
	for ; n != nil; n = n.up {
		count++
	}
	return count
}

// forms are forms of a tree: on which vertex each but the first one hangs.
func forms() map[string]func(v int) int {
	return map[string]func(v int) int{
		"line":   func(v int) int { return v - 1 },
		"star":   func(v int) int { return 0 },
		"tree":   func(v int) int { return (v - 1) / 2 },
		"comb":   func(v int) int { return max(v-2, 0) &^ 1 },
		"zigzag": func(v int) int { return max(v-1-v%5, 0) },
	}
}

// grow is a tree of as many vertices as may be.
func grow(t *testing.T, to func(v int) int) *Forest {
	t.Helper()
	f := New()
	for v := range api.MaxVerts {
		f.AddV(v + 1)
		if v > 0 && f.Link(api.Edge{Id: v, U: v + 1, V: to(v) + 1}) != api.OK {
			t.Fatalf("Link %d", v)
		}
	}
	return f
}

// Many calls are quick together, whatever the tree's form and in whatever order is asked, though one of them may have to go up all of it.
func TestManyCallsAreQuick(t *testing.T) {
	const most, asks = api.MaxVerts, 4 * api.MaxVerts
	for order, ends := range map[string]func(i int) (int, int){
		"rising":  func(i int) (int, int) { return 0, i },
		"falling": func(i int) (int, int) { return most / 2, asks - i },
		"far":     func(i int) (int, int) { return i / 2, asks - i/2 },
		"leaps":   func(i int) (int, int) { return i * 997, i * 1009 },
		"near":    func(i int) (int, int) { return i * 997, i*997 + 1 },
	} {
		for form, to := range forms() {
			f := grow(t, to)
			all := 0
			for i := range asks {
				u, v := ends(i)
				u, v = u%most+1, v%most+1
				all += steps(f.verts[u]) + steps(f.verts[v])
				if joined, e := f.Joined(u, v); !joined || e != api.OK {
					t.Fatalf("%s: Joined(%d, %d) = %v, %d", form, u, v, joined, e)
				}
			}
			if all > 100*asks {
				t.Errorf("%s, %s: %d steps a call", form, order, all/asks)
			}
		}
	}
}
