package index_test

import (
	"math"
	"slices"
	"testing"

	"skein/api"
	"skein/index"
)

// noIds are numbers that are no ids; noWeights are no weights.
var (
	noIds     = []int{0, -1, math.MinInt, api.MaxId + 1, 1<<32 + 1, math.MaxInt}
	noWeights = []int64{-1, math.MinInt64, api.MaxWeight + 1, math.MaxInt64}
)

// do wants that a write ends so.
func do(t *testing.T, x *index.Index, w api.Write, wanted api.Errno) {
	t.Helper()
	if e := x.Do(w); e != wanted {
		t.Fatalf("Do(%v) = %d, want %d", w, e, wanted)
	}
}

func addV(ids ...int) (out []api.Write) {
	for _, id := range ids {
		out = append(out, api.Write{Kind: api.WAddV, Id: id})
	}
	return out
}

func delV(id int) api.Write { return api.Write{Kind: api.WDelV, Id: id} }

func addE(id, u, v int, w int64) api.Write {
	return api.Write{Kind: api.WAddE, Id: id, U: u, V: v, W: w}
}

func delE(id int) api.Write { return api.Write{Kind: api.WDelE, Id: id} }

// doAll wants that all writes go well.
func doAll(t *testing.T, x *index.Index, writes ...api.Write) {
	t.Helper()
	for _, w := range writes {
		do(t, x, w, api.OK)
	}
}

// equal tells whether two answers are the same; a list that is nil and an empty one are.
func equal(a, b api.Answer) bool {
	return a.Err == b.Err && a.Yes == b.Yes && a.Int == b.Int && a.C == b.C && a.Edge == b.Edge &&
		!math.Signbit(real(a.C)) && !math.Signbit(imag(a.C)) &&
		slices.Equal(a.Ids, b.Ids) && slices.Equal(a.Verts, b.Verts) && slices.Equal(a.Edges, b.Edges) &&
		a.Val.Kind == b.Val.Kind && a.Val.Int == b.Val.Int && a.Val.C == b.Val.C && slices.Equal(a.Val.Text, b.Val.Text)
}

// ask wants an answer.
func ask(t *testing.T, x *index.Index, q api.Query, wanted api.Answer) {
	t.Helper()
	if a := x.Ask(q); !equal(a, wanted) {
		t.Fatalf("Ask(%v) = %v, want %v", q, a, wanted)
	}
}

// about is a question about one vertex or two.
func about(kind int, ids ...int) api.Query {
	q := api.Query{Kind: kind}
	if len(ids) > 0 {
		q.U = ids[0]
	}
	if len(ids) > 1 {
		q.V = ids[1]
	}
	return q
}

// fails is an answer that tells an error alone.
func fails(e api.Errno) api.Answer { return api.Answer{Err: e} }

// net wants vertices and edges.
func net(t *testing.T, x *index.Index, verts []int, edges ...api.Edge) {
	t.Helper()
	n := x.Net()
	if !slices.Equal(n.Verts, verts) || !slices.Equal(n.Edges, edges) {
		t.Fatalf("Net = %v, want %v, %v", n, verts, edges)
	}
}

// The edges of example.
var (
	one   = api.Edge{Id: 1, U: 1, V: 2, W: 5}
	two   = api.Edge{Id: 2, U: 2, V: 3, W: 4}
	three = api.Edge{Id: 3, U: 1, V: 3, W: 4}
)

// example is an index of three vertices that are joined all around, and one more that is alone.
func example(t *testing.T) *index.Index {
	t.Helper()
	x := index.New()
	doAll(t, x, addV(1, 2, 3, 4)...)
	doAll(t, x, addE(1, 1, 2, 5), addE(2, 2, 3, 4), addE(3, 1, 3, 4))
	return x
}

// unchanged wants the example.
func unchanged(t *testing.T, x *index.Index) {
	t.Helper()
	net(t, x, []int{1, 2, 3, 4}, one, two, three)
	ask(t, x, about(api.QJoined, 1, 2), api.Answer{Yes: true})
	ask(t, x, about(api.QJoined, 4, 1), api.Answer{})
	ask(t, x, about(api.QWeight), api.Answer{Int: 8})
	ask(t, x, about(api.QForest), api.Answer{Ids: []int{2, 3}})
	ask(t, x, about(api.QPathMax, 1, 2), api.Answer{Edge: three})
	ask(t, x, about(api.QPathMax, 2, 3), api.Answer{Edge: two})
	ask(t, x, about(api.QPathMax, 4, 1), fails(api.ErrNoPath))
	ask(t, x, about(api.QPathSum, 1, 2), api.Answer{C: 8 + 2i})
	ask(t, x, about(api.QPathSum, 1, 4), fails(api.ErrNoPath))
	ask(t, x, about(api.QSpan, 3), api.Answer{Int: 8})
	ask(t, x, about(api.QSpan, 4), api.Answer{})
}

func TestExample(t *testing.T) {
	x := index.New()
	doAll(t, x, addV(1, 2)...)
	do(t, x, addE(5, 1, 2, 3), api.OK)
	ask(t, x, about(api.QPathSum, 1, 2), api.Answer{C: 3 + 1i})
	ask(t, x, about(api.QSpan, 1), api.Answer{Int: 3})
	do(t, x, delV(1), api.ErrInUse)
	do(t, x, delE(5), api.OK)
	ask(t, x, about(api.QJoined, 1, 2), api.Answer{})
}

// P21.1: of an index of no vertices there is nothing to tell, nor to take away.
func TestNew(t *testing.T) {
	for _, x := range []*index.Index{index.New(), index.New(3, 1), built(t, api.Net{}), built(t, api.Net{}, 5)} {
		net(t, x, nil)
		ask(t, x, about(api.QWeight), api.Answer{})
		ask(t, x, about(api.QForest), api.Answer{})
		for _, kind := range []int{api.QJoined, api.QPathMax, api.QPathSum, api.QSpan} {
			ask(t, x, about(kind, 1, 1), fails(api.ErrNotFound))
			ask(t, x, about(kind, 1, api.MaxId), fails(api.ErrNotFound))
		}
		do(t, x, delV(1), api.ErrNotFound)
		do(t, x, delE(1), api.ErrNotFound)
		do(t, x, addE(1, 1, 1, 0), api.ErrNotFound)
	}
}

// P21.1: a path from a vertex to itself has no edge, whatever hangs on it.
func TestToItself(t *testing.T) {
	x := example(t)
	do(t, x, addE(9, 4, 4, 7), api.OK)
	for v := 1; v <= 4; v++ {
		ask(t, x, about(api.QJoined, v, v), api.Answer{Yes: true})
		ask(t, x, about(api.QPathMax, v, v), api.Answer{})
		ask(t, x, about(api.QPathSum, v, v), api.Answer{})
	}
	ask(t, x, about(api.QSpan, 4), api.Answer{})
	do(t, x, delV(4), api.ErrInUse)
	do(t, x, delE(9), api.OK)
	unchanged(t, x)
	do(t, x, delV(4), api.OK)
	net(t, x, []int{1, 2, 3}, one, two, three)
}

// P21.1: what Do refuses, in the order in which layer 5 names it.
func TestWrongWrites(t *testing.T) {
	x := example(t)
	for _, v := range noIds {
		do(t, x, addV(v)[0], api.ErrArg)
		do(t, x, delV(v), api.ErrArg)
		do(t, x, delE(v), api.ErrArg)
		for _, w := range append(noWeights, 0) {
			do(t, x, addE(v, 1, 2, w), api.ErrArg)
			do(t, x, addE(3, v, 2, w), api.ErrArg)
			do(t, x, addE(9, 7, v, w), api.ErrArg)
		}
	}
	for _, w := range noWeights {
		do(t, x, addE(9, 1, 2, w), api.ErrWeight)
		do(t, x, addE(3, 1, 2, w), api.ErrWeight)
		do(t, x, addE(3, 7, 8, w), api.ErrWeight)
	}
	for v := 1; v <= 4; v++ {
		do(t, x, addV(v)[0], api.ErrExists)
	}
	for v := 1; v <= 3; v++ {
		do(t, x, delV(v), api.ErrInUse)
		do(t, x, addE(v, 1, 4, 0), api.ErrExists)
		do(t, x, addE(v, 1, 7, 0), api.ErrExists)
	}
	for _, id := range []int{5, 9, api.MaxId} {
		do(t, x, delV(id), api.ErrNotFound)
		do(t, x, delE(id), api.ErrNotFound)
		do(t, x, addE(9, id, 1, 0), api.ErrNotFound)
		do(t, x, addE(9, 4, id, 0), api.ErrNotFound)
	}
	unchanged(t, x)
}

// P21.1: writes of properties, and of no kind, and questions of other kinds are refused, whatever else they say.
func TestOtherKinds(t *testing.T) {
	x := example(t)
	for _, kind := range []int{0, api.WProp, api.WUnset, 7, -1, math.MinInt, math.MaxInt} {
		do(t, x, api.Write{Kind: kind}, api.ErrArg)
		do(t, x, api.Write{Kind: kind, Id: 9, U: 1, V: 4, W: 1, Of: api.Ref{Id: 1}, Name: "a", Val: api.Value{Kind: api.VInt}}, api.ErrArg)
	}
	for _, kind := range []int{0, api.QHasV, api.QEdge, api.QProp, api.QAround, api.QNet, 12, -1, math.MinInt, math.MaxInt} {
		ask(t, x, api.Query{Kind: kind}, fails(api.ErrArg))
		ask(t, x, api.Query{Kind: kind, U: 1, V: 2, Of: api.Ref{Id: 1}, Name: "a"}, fails(api.ErrArg))
	}
	unchanged(t, x)
}

// P21.1: a vertex that is asked for is an id ahead of all else, and is there; what a kind doesn't name doesn't count.
func TestQuestions(t *testing.T) {
	x := example(t)
	for _, v := range append(noIds, 5, api.MaxId) {
		wanted := fails(api.ErrArg)
		if v == 5 || v == api.MaxId {
			wanted = fails(api.ErrNotFound)
		}
		for _, kind := range []int{api.QJoined, api.QPathMax, api.QPathSum} {
			ask(t, x, about(kind, v, 1), wanted)
			ask(t, x, about(kind, 4, v), wanted)
			ask(t, x, about(kind, v, v), wanted)
			ask(t, x, about(kind, 5, 0), fails(api.ErrArg))
			ask(t, x, about(kind, 0, 5), fails(api.ErrArg))
		}
		ask(t, x, about(api.QSpan, v), wanted)
		ask(t, x, about(api.QSpan, 1, v), api.Answer{Int: 8})
		ask(t, x, about(api.QWeight, v, v), api.Answer{Int: 8})
		ask(t, x, about(api.QForest, v, v), api.Answer{Ids: []int{2, 3}})
	}
	of := api.Query{Kind: api.QSpan, U: 2, Of: api.Ref{Edge: true, Id: -1}, Name: "no name"}
	ask(t, x, of, api.Answer{Int: 8})
	odd := api.Write{Kind: api.WAddV, Id: 5, U: -1, V: -1, W: -1, Of: api.Ref{Id: -1}, Name: "no name", Val: api.Value{Kind: 9}}
	do(t, x, odd, api.OK)
	odd.Kind = api.WDelV
	do(t, x, odd, api.OK)
	odd.Kind, odd.Id = api.WDelE, 3
	do(t, x, odd, api.OK)
	odd.Kind, odd.U, odd.V, odd.W = api.WAddE, 1, 3, 4
	do(t, x, odd, api.OK)
	unchanged(t, x)
}

// P21.1: an edge that goes leaves its place in the forest to another one, and what hangs on that changes with it.
func TestForestMoves(t *testing.T) {
	x := example(t)
	do(t, x, delE(2), api.OK)
	ask(t, x, about(api.QForest), api.Answer{Ids: []int{1, 3}})
	ask(t, x, about(api.QPathMax, 2, 3), api.Answer{Edge: one})
	ask(t, x, about(api.QPathSum, 2, 3), api.Answer{C: 9 + 2i})
	ask(t, x, about(api.QSpan, 1), api.Answer{Int: 9})
	do(t, x, addE(7, 2, 3, 0), api.OK)
	ask(t, x, about(api.QForest), api.Answer{Ids: []int{3, 7}})
	ask(t, x, about(api.QPathSum, 1, 2), api.Answer{C: 4 + 2i})
	ask(t, x, about(api.QSpan, 2), api.Answer{Int: 4})
	doAll(t, x, delE(3), delE(7))
	ask(t, x, about(api.QWeight), api.Answer{Int: 5})
	ask(t, x, about(api.QJoined, 1, 3), api.Answer{})
	ask(t, x, about(api.QSpan, 3), api.Answer{})
	net(t, x, []int{1, 2, 3, 4}, one)
}

// P21.1: a sum above MaxSum isn't told, nor the greatest edge of its path; one that isn't above is.
func TestOverflow(t *testing.T) {
	const most = api.MaxSum / api.MaxWeight
	for long := most - 1; long <= most+1; long++ {
		x := index.New()
		doAll(t, x, addV(1)...)
		for v := 2; v <= long+1; v++ {
			doAll(t, x, addV(v)[0], addE(v, v, v-1, api.MaxWeight))
		}
		doAll(t, x, addV(3000, 3001)...)
		do(t, x, addE(3000, 3000, 3001, 7), api.OK)
		sum, last := int64(long)*api.MaxWeight, api.Edge{Id: long + 1, U: long + 1, V: long, W: api.MaxWeight}
		path, greatest, span := api.Answer{C: complex(float64(sum), float64(long))}, api.Answer{Edge: last}, api.Answer{Int: sum}
		if long > most {
			path, greatest, span = fails(api.ErrOverflow), fails(api.ErrOverflow), fails(api.ErrOverflow)
		}
		ask(t, x, about(api.QPathSum, long+1, 1), path)
		ask(t, x, about(api.QPathMax, long+1, 1), greatest)
		ask(t, x, about(api.QSpan, 2), span)
		ask(t, x, about(api.QPathSum, 2, long+1), api.Answer{C: complex(float64(sum-api.MaxWeight), float64(long-1))})
		ask(t, x, about(api.QSpan, 3000), api.Answer{Int: 7})
		weight := api.Answer{Int: sum + 7}
		if sum+7 > api.MaxSum {
			weight = fails(api.ErrOverflow)
		}
		ask(t, x, about(api.QWeight), weight)
		do(t, x, delE(3000), api.OK)
		ask(t, x, about(api.QWeight), span)
		do(t, x, delE(2), api.OK)
		ask(t, x, about(api.QWeight), api.Answer{Int: sum - api.MaxWeight})
		ask(t, x, about(api.QSpan, 2), api.Answer{Int: sum - api.MaxWeight})
	}
}

// P21.1: as many vertices and edges as may be.
func TestMany(t *testing.T) {
	const most = api.MaxVerts
	x := index.New(1, 2, 3)
	for v := 1; v <= most; v++ {
		do(t, x, addV(v)[0], api.OK)
	}
	for id := 1; id <= api.MaxEdges; id++ {
		do(t, x, addE(id, id, id%most+1, int64(id)), api.OK)
	}
	for range 2 {
		do(t, x, addV(most + 1)[0], api.ErrMany)
		do(t, x, addV(1)[0], api.ErrExists)
		do(t, x, addE(most+1, 1, 2, 0), api.ErrMany)
		do(t, x, addE(most+1, 1, most+1, 0), api.ErrNotFound)
		do(t, x, addE(1, 1, 2, 0), api.ErrExists)
	}
	const all = most * (most - 1) / 2 // the greatest edge is in no forest
	ask(t, x, about(api.QWeight), api.Answer{Int: all})
	ask(t, x, about(api.QSpan, 7), api.Answer{Int: all})
	ask(t, x, about(api.QPathSum, most, 1), api.Answer{C: complex(all, most-1)})
	do(t, x, delE(1000), api.OK)
	ask(t, x, about(api.QSpan, 7), api.Answer{Int: all - 1000 + most})
	ask(t, x, about(api.QPathMax, 1000, 1001), api.Answer{Edge: api.Edge{Id: most, U: most, V: 1, W: most}})
	other := built(t, x.Net(), 9)
	for id := 1; id <= most; id++ {
		if id != 1000 {
			do(t, x, delE(id), api.OK)
		}
	}
	ask(t, x, about(api.QForest), api.Answer{})
	do(t, x, delV(9), api.OK)
	do(t, x, addV(api.MaxId)[0], api.OK)
	ask(t, other, about(api.QSpan, 9), api.Answer{Int: all - 1000 + most})
}

// built is the index of a net.
func built(t *testing.T, n api.Net, seeds ...int) *index.Index {
	t.Helper()
	x, e := index.Build(n, seeds...)
	if e != api.OK {
		t.Fatalf("Build = %d", e)
	}
	return x
}

// P21.2: an index of a net; one that isn't right has none.
func TestBuild(t *testing.T) {
	unchanged(t, built(t, api.Net{Verts: []int{1, 2, 3, 4}, Edges: []api.Edge{one, two, three}}))
	long := make([]int, api.MaxVerts+1)
	for i := range long {
		long[i] = i + 1
	}
	many := make([]api.Edge, api.MaxEdges+1)
	for i := range many {
		many[i] = api.Edge{Id: i + 1, U: 1, V: 1}
	}
	right := api.Net{Verts: long[:api.MaxVerts], Edges: many[:api.MaxEdges]}
	net(t, built(t, right), right.Verts, right.Edges...)
	for name, n := range map[string]api.Net{
		"no id":            {Verts: []int{0, 1}},
		"an id too great":  {Verts: []int{1, api.MaxId + 1}},
		"not rising":       {Verts: []int{2, 1}},
		"twice":            {Verts: []int{1, 1}},
		"many vertices":    {Verts: long},
		"many edges":       {Verts: []int{1}, Edges: many},
		"an edge of no id": {Verts: []int{1}, Edges: []api.Edge{{Id: 0, U: 1, V: 1}}},
		"no end":           {Verts: []int{1}, Edges: []api.Edge{{Id: 1, U: 1, V: 2}}},
		"no vertices":      {Edges: []api.Edge{one}},
		"edges twice":      {Verts: []int{1, 2}, Edges: []api.Edge{one, one}},
		"edges not rising": {Verts: []int{1, 2, 3}, Edges: []api.Edge{two, one}},
		"below nought":     {Verts: []int{1, 2}, Edges: []api.Edge{{Id: 1, U: 1, V: 2, W: -1}}},
		"too heavy":        {Verts: []int{1, 2}, Edges: []api.Edge{{Id: 1, U: 1, V: 2, W: api.MaxWeight + 1}}},
	} {
		if x, e := index.Build(n, 1, 2); x != nil || e != api.ErrNet {
			t.Errorf("%s: Build = %v, %d", name, x, e)
		}
	}
}

// P21.3, and what is handed in is neither changed nor kept.
func TestArgumentsAndAnswersAreTheirOwners(t *testing.T) {
	verts := []int{1, 2, 3, 4, 77}
	edges := []api.Edge{one, two, three, {Id: 77}}
	seeds := []int{5, 1, 4}
	x := built(t, api.Net{Verts: verts[:4], Edges: edges[:3]}, seeds[:2]...)
	if !slices.Equal(verts, []int{1, 2, 3, 4, 77}) || !slices.Equal(edges, []api.Edge{one, two, three, {Id: 77}}) || !slices.Equal(seeds, []int{5, 1, 4}) {
		t.Fatalf("Build has changed what was handed in: %v, %v, %v", verts, edges, seeds)
	}
	overwrite(verts, 99)
	overwrite(edges, api.Edge{Id: 99})
	overwrite(seeds, 99)
	unchanged(t, x)
	forest := x.Ask(about(api.QForest))
	n := x.Net()
	overwrite(forest.Ids, 99)
	overwrite(n.Verts, 99)
	overwrite(n.Edges, api.Edge{Id: 99})
	unchanged(t, x)
	a, b := x.Net(), x.Net()
	overwrite(a.Verts, 99)
	overwrite(a.Edges, api.Edge{Id: 99})
	if !slices.Equal(b.Verts, []int{1, 2, 3, 4}) || !slices.Equal(b.Edges, []api.Edge{one, two, three}) {
		t.Fatalf("two answers share memory: %v", b)
	}
}

// overwrite writes over a list and its spare room.
func overwrite[T any](list []T, with T) {
	list = list[:cap(list)]
	for i := range list {
		list[i] = with
	}
}

// P21.3: two indexes share nothing.
func TestTwoIndexes(t *testing.T) {
	x := example(t)
	y := built(t, x.Net())
	doAll(t, y, delE(1), delE(2), delE(3), delV(1))
	unchanged(t, x)
	net(t, y, []int{2, 3, 4})
	do(t, y, addE(3, 2, 4, 1), api.OK)
	doAll(t, x, delE(3), addE(5, 4, 1, 2))
	ask(t, y, about(api.QSpan, 2), api.Answer{Int: 1})
	ask(t, x, about(api.QSpan, 2), api.Answer{Int: 11})
	net(t, y, []int{2, 3, 4}, api.Edge{Id: 3, U: 2, V: 4, W: 1})
}
