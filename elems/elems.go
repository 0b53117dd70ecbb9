// Package elems holds the order in which elements are told.
package elems

import (
	"cmp"

	"skein/api"
)

// Order: vertices ahead of edges, by rising ids.
func Order(a, b api.Ref) int {
	if a.Edge == b.Edge {
		return cmp.Compare(a.Id, b.Id)
	}
	if b.Edge {
		return -1
	}
	return 1
}
