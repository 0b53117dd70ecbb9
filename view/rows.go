package view

import (
	"bytes"

	"skein/api"
	"skein/graph"
	"skein/keys"
	"skein/store"
)

// Load is the graph that lies in a table.
func Load(s *store.Store, t int64) (*graph.Graph, api.Errno) {
	rows, e := s.Scan(nil, nil, t)
	if e != api.OK {
		return nil, e
	}
	// In the keys' order edges stand behind all vertices, and properties behind all elements.
	g := graph.New()
	for _, row := range rows {
		w, ok := writeOf(row)
		if !ok || g.Do(w) != api.OK {
			return nil, api.ErrCorrupt
		}
	}
	return g, api.OK
}

// writeOf is the write that a row comes of; false if it comes of none.
func writeOf(row api.Pair) (api.Write, bool) {
	of, name, ok := keys.Parse(row.Key)
	switch {
	case !ok:
		return api.Write{}, false
	case name != "":
		val, e := keys.GetValue(row.Val)
		return api.Write{Kind: api.WProp, Of: of, Name: name, Val: val}, e == api.OK
	case of.Edge:
		x, e := keys.GetEnds(of.Id, row.Val)
		return api.Write{Kind: api.WAddE, Id: x.Id, U: x.U, V: x.V, W: x.W}, e == api.OK
	}
	return api.Write{Kind: api.WAddV, Id: of.Id}, len(row.Val) == 0
}

// Rows are the rows that differ.
func (v *View) Rows() []api.Row {
	if len(v.writes) == 0 {
		return nil
	}
	return differences(v.rowsOf(v.beneath), v.rowsOf(v.now))
}

// rowsOf is the rows in which what was touched lies, as a graph has it, by rising keys. In no others can the graphs differ.
func (v *View) rowsOf(g *graph.Graph) []api.Pair {
	var rows []api.Pair
	for _, r := range v.Refs() {
		if val, ok := elem(g, r); ok {
			key, _ := keys.Elem(r)
			rows = append(rows, api.Pair{Key: key, Val: val})
		}
	}
	for _, p := range g.Props() {
		if _, ok := v.touched[p.Of]; ok {
			key, _ := keys.Prop(p.Of, p.Name)
			val, _ := keys.PutValue(p.Val)
			rows = append(rows, api.Pair{Key: key, Val: val})
		}
	}
	return rows
}

// elem is what the row of an element has; false if the graph hasn't got it.
func elem(g *graph.Graph, r api.Ref) ([]byte, bool) {
	if !r.Edge {
		return nil, g.HasV(r.Id)
	}
	x, ok := g.Edge(r.Id)
	if !ok {
		return nil, false
	}
	val, _ := keys.PutEnds(x)
	return val, true
}

// differences is how rows become others; both stand by rising keys.
func differences(was, is []api.Pair) []api.Row {
	var out []api.Row
	for len(was) > 0 || len(is) > 0 {
		c := order(was, is)
		switch {
		case c < 0:
			out = append(out, api.Row{Key: was[0].Key, Gone: true})
		case c > 0 || !bytes.Equal(was[0].Val, is[0].Val):
			out = append(out, api.Row{Key: is[0].Key, Val: is[0].Val})
		}
		if c <= 0 {
			was = was[1:]
		}
		if c >= 0 {
			is = is[1:]
		}
	}
	return out
}

// order tells which of two lists' first rows stands ahead: below 0 that of the first list. All rows stand ahead of a list's end.
func order(a, b []api.Pair) int {
	switch {
	case len(b) == 0:
		return -1
	case len(a) == 0:
		return 1
	}
	return bytes.Compare(a[0].Key, b[0].Key)
}
