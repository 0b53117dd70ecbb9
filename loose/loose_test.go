package loose_test

import (
	"maps"
	"testing"

	"skein/loose"
)

// holds wants the edges that hang on each vertex, and no other vertex.
func holds(t *testing.T, x loose.Edges, wanted map[int]map[int]int) {
	t.Helper()
	if !maps.EqualFunc(x, wanted, maps.Equal[map[int]int, map[int]int]) {
		t.Fatalf("%v, want %v", x, wanted)
	}
}

func TestHangAndDrop(t *testing.T) {
	x := loose.Edges{}
	x.Hang(7, 1, 2)
	holds(t, x, map[int]map[int]int{1: {7: 2}, 2: {7: 1}})
	x.Hang(8, 2, 1)
	x.Hang(9, 2, 2)
	x.Hang(1, 2, 3)
	holds(t, x, map[int]map[int]int{1: {7: 2, 8: 2}, 2: {7: 1, 8: 1, 9: 2, 1: 3}, 3: {1: 2}})
	x.Drop(7, 1, 2)
	x.Drop(1, 3, 2)
	holds(t, x, map[int]map[int]int{1: {8: 2}, 2: {8: 1, 9: 2}})
	x.Drop(8, 1, 2)
	holds(t, x, map[int]map[int]int{2: {9: 2}})
	x.Drop(9, 2, 2)
	holds(t, x, nil)
}
