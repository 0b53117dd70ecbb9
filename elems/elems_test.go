package elems_test

import (
	"math"
	"slices"
	"testing"

	"skein/api"
	"skein/elems"
)

func TestOrder(t *testing.T) {
	var sorted []api.Ref
	for _, edge := range []bool{false, true} {
		for _, id := range []int{math.MinInt, -1, 0, 1, 2, 255, 256, api.MaxId, math.MaxInt} {
			sorted = append(sorted, api.Ref{Edge: edge, Id: id})
		}
	}
	for i, a := range sorted {
		for j, b := range sorted {
			got := elems.Order(a, b)
			if (got < 0) != (i < j) || (got > 0) != (i > j) {
				t.Errorf("Order(%v, %v) = %d", a, b, got)
			}
		}
	}
	mixed := slices.Clone(sorted)
	slices.Reverse(mixed)
	slices.SortFunc(mixed, elems.Order)
	if !slices.Equal(mixed, sorted) {
		t.Errorf("sorted: %v", mixed)
	}
}
