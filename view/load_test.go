package view_test

import (
	"math"
	"slices"
	"testing"

	"skein/api"
	"skein/disk"
	"skein/graph"
	"skein/keys"
	"skein/view"
)

// Rows of a graph, and of none.
const (
	one     = "\x01\x00\x00\x00\x01"
	two     = "\x01\x00\x00\x00\x02"
	five    = "\x02\x00\x00\x00\x05"
	oneA    = "\x03\x00\x00\x00\x00\x01a"
	fiveA   = "\x03\x01\x00\x00\x00\x05a"
	joins   = "\x01\x02\x03" // what edge 5 between 1 and 2 has
	aNumber = "\x01\x0a"
)

// right are rows that make a graph.
func right() []api.Row {
	return []api.Row{row(fiveA, aNumber), row(oneA, aNumber), row(five, joins), row(two, ""), row(one, "")}
}

// but are the right rows but for some, with others.
func but(less []string, more ...api.Row) []api.Row {
	out := slices.DeleteFunc(right(), func(x api.Row) bool {
		return slices.Contains(less, string(x.Key)) || slices.ContainsFunc(more, func(y api.Row) bool { return string(y.Key) == string(x.Key) })
	})
	return append(out, more...)
}

// P22.2: whatever the rows' order was, they make the graph.
func TestLoad(t *testing.T) {
	s := opened(t, disk.New(100), api.Conf{Log: 60, Frames: 4})
	loads(t, s, -1, graph.New())
	loads(t, s, 0, graph.New())
	loads(t, s, math.MaxInt64, graph.New())
	if e := s.Apply(3, right()...); e != api.OK {
		t.Fatalf("Apply = %d", e)
	}
	want := made(t, addV(1), addV(2), addE(5, 1, 2, 3), prop(vertex(1), "a", number(5)), prop(edge(5), "a", number(5)))
	loads(t, s, 2, graph.New())
	for range 2 {
		loads(t, s, 3, want)
		loads(t, s, 4, want)
		loads(t, s, math.MaxInt64, want)
	}
	g, _ := view.Load(s, 3)
	do(t, g, delE(5), delV(2))
	loads(t, s, 3, want)
}

// ErrCorrupt: rows of no graph, at their time and behind it, as long as they are there.
func TestWrongRows(t *testing.T) {
	long := make([]byte, 61)
	for name, rows := range map[string][]api.Row{
		"no key":                      but(nil, row("", "")),
		"another key":                 but(nil, row("\x04\x00\x00\x00\x01", "")),
		"a short key":                 but(nil, row("\x01\x00\x00\x07", "")),
		"a long key":                  but(nil, row("\x01\x00\x00\x00\x07a", "")),
		"no vertex":                   but(nil, row("\x01\x00\x00\x00\x00", "")),
		"a vertex beyond ids":         but(nil, row("\x01\x80\x00\x00\x00", "")),
		"a vertex that has bytes":     but(nil, row("\x01\x00\x00\x00\x07", "\x00")),
		"no edge":                     but(nil, row("\x02\x00\x00\x00\x00", joins)),
		"an edge without bytes":       but(nil, row(five, "")),
		"an edge of too few bytes":    but(nil, row(five, "\x01\x02")),
		"an edge of too many bytes":   but(nil, row(five, joins+"\x00")),
		"an edge in another form":     but(nil, row(five, "\x81\x00\x02\x03")),
		"an edge without its ends":    but([]string{two}),
		"an edge without one end":     but([]string{one, oneA}),
		"an edge from nowhere":        but(nil, row(five, "\x00\x02\x03")),
		"an edge that is too heavy":   but(nil, row(five, "\x01\x02\x81\x80\x80\x80\x80\x20")),
		"a property of no vertex":     but(nil, row("\x03\x00\x00\x00\x00\x03a", aNumber)),
		"a property of no edge":       but([]string{five}),
		"a property of the id nought": but(nil, row("\x03\x00\x00\x00\x00\x00a", aNumber)),
		"a property of another kind":  but(nil, row("\x03\x02\x00\x00\x00\x01a", aNumber)),
		"a property without a name":   but(nil, row("\x03\x00\x00\x00\x00\x01", aNumber)),
		"a name that is none":         but(nil, row("\x03\x00\x00\x00\x00\x01A", aNumber)),
		"a name that is too long":     but(nil, row("\x03\x00\x00\x00\x00\x01abcdefghijklmnopq", aNumber)),
		"a value without bytes":       but(nil, row(oneA, "")),
		"a value of no kind":          but(nil, row(oneA, "\x04\x00")),
		"a value of too few bytes":    but(nil, row(oneA, "\x02\x06")),
		"a value of too many bytes":   but(nil, row(oneA, aNumber+"\x00")),
		"a value in another form":     but(nil, row(oneA, "\x01\x8a\x00")),
		"a value that is too great":   but(nil, row(oneA, "\x02\x82\x80\x80\x80\x80\x80\x80\x04\x00")),
		"a text that is too long":     but(nil, row(oneA, "\x03\x3d"+string(long))),
	} {
		s := opened(t, disk.New(100), api.Conf{Log: 60, Frames: 4})
		var away []api.Row
		for _, x := range rows {
			away = append(away, goes(string(x.Key)))
		}
		for time, now := range [][]api.Row{rows, away, right()} {
			if e := s.Apply(int64(2*time), now...); e != api.OK {
				t.Fatalf("%s: Apply = %d", name, e)
			}
		}
		for time := range int64(2) {
			if g, e := view.Load(s, time); g != nil || e != api.ErrCorrupt {
				t.Errorf("%s: Load(%d) = %v, %d", name, time, g, e)
			}
		}
		loads(t, s, 3, graph.New())
		if g, e := view.Load(s, 4); g == nil || e != api.OK {
			t.Errorf("%s: Load(4) = %v, %d", name, g, e)
		}
	}
}

// elem is the row of a vertex or an edge.
func elem(t *testing.T, r api.Ref, val string) api.Row {
	t.Helper()
	key, e := keys.Elem(r)
	if e != api.OK {
		t.Fatalf("Elem(%v) = %d", r, e)
	}
	return row(string(key), val)
}

// ErrCorrupt: more than a graph may have; as many as it may have are loaded.
func TestLoadMany(t *testing.T) {
	loop := "\x01\x01\x00" // an edge from 1 to itself
	for name, many := range map[string]struct {
		most int
		row  func(i int) api.Row
	}{
		"vertices": {api.MaxVerts - 1, func(i int) api.Row { return elem(t, vertex(2+i), "") }},
		"edges":    {api.MaxEdges, func(i int) api.Row { return elem(t, edge(1+i), loop) }},
		"properties": {api.MaxProps, func(i int) api.Row {
			key, _ := keys.Prop(vertex(1), string([]byte{'a' + byte(i%26), 'a' + byte(i/26%26), 'a' + byte(i/676)}))
			return row(string(key), aNumber)
		}},
	} {
		s := opened(t, disk.New(1500), api.Conf{Log: 200, Frames: 16})
		if e := s.Apply(0, elem(t, vertex(1), "")); e != api.OK {
			t.Fatalf("Apply = %d", e)
		}
		for from := 0; from < many.most; {
			var part []api.Row
			for ; len(part) < 64 && from < many.most; from++ {
				part = append(part, many.row(from))
			}
			if e := s.Apply(s.Last()+1, part...); e != api.OK {
				t.Fatalf("%s: Apply = %d", name, e)
			}
		}
		g, e := view.Load(s, s.Last())
		if e != api.OK {
			t.Fatalf("%s: Load = %d", name, e)
		}
		n := g.Net()
		if got := len(n.Verts) - 1 + len(n.Edges) + len(g.Props()); got != many.most {
			t.Fatalf("%s: loaded are %d, want %d", name, got, many.most)
		}
		full := s.Last()
		if e := s.Apply(full+1, many.row(many.most)); e != api.OK {
			t.Fatalf("%s: Apply = %d", name, e)
		}
		if g, e := view.Load(s, full+1); g != nil || e != api.ErrCorrupt {
			t.Errorf("%s: one more: Load = %v, %d", name, g, e)
		}
		loads(t, s, full, g)
	}
}

// The table's errors: a step of the disk that is refused while the table is read, and a dead table.
func TestLoadOfADeadTable(t *testing.T) {
	for kind, wanted := range map[int]api.Errno{api.FFail: api.ErrDisk, api.FBefore: api.ErrPower, api.FBehind: api.ErrPower} {
		d := disk.New(100)
		s := opened(t, d, api.Conf{Log: 60, Frames: 1})
		if e := s.Apply(0, right()...); e != api.OK {
			t.Fatalf("Apply = %d", e)
		}
		// The only frame has to be written back ahead of the first page that is read.
		d.Plan(api.Fate{Step: d.Steps() + 1, Kind: kind})
		for _, e := range []api.Errno{wanted, api.ErrDead, api.ErrDead} {
			if g, got := view.Load(s, 0); g != nil || got != e {
				t.Fatalf("Load = %v, %d, want %d", g, got, e)
			}
		}
	}
}
