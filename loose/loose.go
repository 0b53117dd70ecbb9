// Package loose keeps edges that lie beside a forest by their ends.
package loose

// Edges are by the id of a vertex, and then by their own, the other ends of the edges that hang on it. No vertex has an empty map.
type Edges map[int]map[int]int

// Hang hangs an edge on its ends.
func (x Edges) Hang(id, u, v int) {
	for _, ends := range [2][2]int{{u, v}, {v, u}} {
		at := ends[0]
		if x[at] == nil {
			x[at] = map[int]int{}
		}
		x[at][id] = ends[1]
	}
}

// Drop takes an edge off its ends.
func (x Edges) Drop(id, u, v int) {
	for _, at := range [2]int{u, v} {
		delete(x[at], id)
		if len(x[at]) == 0 {
			delete(x, at)
		}
	}
}
