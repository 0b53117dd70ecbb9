package mvcc_test

import (
	"math"
	"slices"
	"testing"

	"skein/api"
	"skein/mvcc"
)

func vertex(id int) api.Ref { return api.Ref{Id: id} }
func edge(id int) api.Ref   { return api.Ref{Edge: true, Id: id} }

// want holds an error against the one that is wanted.
func want(t *testing.T, what string, got, want api.Errno) {
	t.Helper()
	if got != want {
		t.Fatalf("%s = %d, want %d", what, got, want)
	}
}

// begin begins a transaction, of which the number is known.
func begin(t *testing.T, x *mvcc.Table, wanted int) {
	t.Helper()
	if n, e := x.Begin(); n != wanted || e != api.OK {
		t.Fatalf("Begin = %d, %d, want %d", n, e, wanted)
	}
}

func touch(t *testing.T, x *mvcc.Table, n int, refs ...api.Ref) {
	t.Helper()
	want(t, "Touch", x.Touch(n, refs...), api.OK)
}

// starts holds a transaction's start against the one that is wanted.
func starts(t *testing.T, x *mvcc.Table, n int, wanted int64) {
	t.Helper()
	if start, e := x.Start(n); start != wanted || e != api.OK {
		t.Fatalf("Start(%d) = %d, %d, want %d", n, start, e, wanted)
	}
}

// commits commits a transaction, which Try has to foretell.
func commits(t *testing.T, x *mvcc.Table, n int, wanted int64, fails api.Errno) {
	t.Helper()
	for range 2 {
		want(t, "Try", x.Try(n), fails)
	}
	if time, e := x.Commit(n); time != wanted || e != fails {
		t.Fatalf("Commit(%d) = %d, %d, want %d, %d", n, time, e, wanted, fails)
	}
	isNone(t, x, n)
}

// isNone wants ErrNoTxn of every call.
func isNone(t *testing.T, x *mvcc.Table, n int) {
	t.Helper()
	want(t, "Touch", x.Touch(n, vertex(1)), api.ErrNoTxn)
	want(t, "Touch of nothing", x.Touch(n), api.ErrNoTxn)
	if start, e := x.Start(n); start != 0 || e != api.ErrNoTxn {
		t.Fatalf("Start(%d) = %d, %d", n, start, e)
	}
	want(t, "Try", x.Try(n), api.ErrNoTxn)
	if time, e := x.Commit(n); time != 0 || e != api.ErrNoTxn {
		t.Fatalf("Commit(%d) = %d, %d", n, time, e)
	}
	want(t, "Abort", x.Abort(n), api.ErrNoTxn)
}

// is holds what a table tells of itself against what is wanted.
func is(t *testing.T, x *mvcc.Table, last, horizon int64, live ...int) {
	t.Helper()
	if x.Last() != last || x.Horizon() != horizon || !slices.Equal(x.Live(), live) {
		t.Fatalf("Last %d, Horizon %d, Live %v, want %d, %d, %v", x.Last(), x.Horizon(), x.Live(), last, horizon, live)
	}
}

func TestExample(t *testing.T) {
	x := mvcc.New(4)
	begin(t, x, 1)
	begin(t, x, 2)
	touch(t, x, 1, vertex(7))
	touch(t, x, 2, vertex(7))
	commits(t, x, 2, 5, api.OK)
	commits(t, x, 1, 0, api.ErrConflict)
	begin(t, x, 3)
	starts(t, x, 3, 5)
}

// P14.1: a new table, and the last times that it may be given.
func TestNew(t *testing.T) {
	for _, y := range []struct{ last, wanted int64 }{
		{0, 0}, {1, 1}, {-1, 0}, {math.MinInt64, 0}, {77, 77},
		{api.MaxTime - 1, api.MaxTime - 1}, {api.MaxTime, api.MaxTime}, {api.MaxTime + 1, api.MaxTime}, {math.MaxInt64, api.MaxTime},
	} {
		x := mvcc.New(y.last)
		is(t, x, y.wanted, y.wanted)
		for _, n := range []int{0, 1, -1, math.MinInt, math.MaxInt} {
			isNone(t, x, n)
		}
		begin(t, x, 1)
		starts(t, x, 1, y.wanted)
		is(t, x, y.wanted, y.wanted, 1)
	}
}

// P14.1: as many transactions as may be; numbers never come again.
func TestTooMany(t *testing.T) {
	x := mvcc.New(0)
	for n := range api.MaxTxns {
		begin(t, x, n+1)
	}
	for range 2 {
		if n, e := x.Begin(); n != 0 || e != api.ErrTxns {
			t.Fatalf("Begin = %d, %d", n, e)
		}
	}
	is(t, x, 0, 0, 1, 2, 3, 4, 5, 6, 7, 8)
	want(t, "Abort", x.Abort(3), api.OK)
	isNone(t, x, 3)
	begin(t, x, 9)
	if n, e := x.Begin(); n != 0 || e != api.ErrTxns {
		t.Fatalf("Begin = %d, %d", n, e)
	}
	commits(t, x, 8, 0, api.OK)
	touch(t, x, 1, edge(1))
	commits(t, x, 1, 1, api.OK)
	is(t, x, 1, 0, 2, 4, 5, 6, 7, 9)
	begin(t, x, 10)
	begin(t, x, 11)
	starts(t, x, 10, 1)
	is(t, x, 1, 0, 2, 4, 5, 6, 7, 9, 10, 11)
	isNone(t, x, 12)
	isNone(t, x, 0)
	isNone(t, x, -2)
}

// P14.1: what is touched: a vertex isn't an edge; in one call or in several; ids of every size.
func TestTouch(t *testing.T) {
	for _, y := range []struct {
		one, other []api.Ref
		common     bool
	}{
		{[]api.Ref{vertex(1)}, []api.Ref{vertex(1)}, true},
		{[]api.Ref{edge(1)}, []api.Ref{edge(1)}, true},
		{[]api.Ref{vertex(1)}, []api.Ref{edge(1)}, false},
		{[]api.Ref{edge(1)}, []api.Ref{vertex(1)}, false},
		{[]api.Ref{vertex(1)}, []api.Ref{vertex(2)}, false},
		{[]api.Ref{vertex(1), vertex(2), edge(3)}, []api.Ref{edge(4), edge(3)}, true},
		{[]api.Ref{vertex(1), vertex(2), edge(3)}, []api.Ref{edge(1), edge(2), vertex(3)}, false},
		{[]api.Ref{vertex(5), vertex(5)}, []api.Ref{vertex(6), vertex(5)}, true},
		{[]api.Ref{{}}, []api.Ref{{}}, true},
		{[]api.Ref{vertex(-1)}, []api.Ref{vertex(-1)}, true},
		{[]api.Ref{vertex(-1)}, []api.Ref{vertex(1)}, false},
		{[]api.Ref{vertex(math.MaxInt)}, []api.Ref{vertex(math.MaxInt)}, true},
		{[]api.Ref{vertex(1 << 32)}, []api.Ref{vertex(0)}, false},
		{nil, []api.Ref{vertex(1)}, false},
		{[]api.Ref{vertex(1)}, nil, false},
		{nil, nil, false},
	} {
		for _, whole := range []bool{false, true} {
			x := mvcc.New(10)
			begin(t, x, 1)
			begin(t, x, 2)
			for i, refs := range [][]api.Ref{y.one, y.other} {
				if whole {
					touch(t, x, i+1, refs...)
					continue
				}
				for _, r := range refs {
					touch(t, x, i+1, r)
				}
			}
			time := int64(10)
			if len(y.one) > 0 {
				time++
			}
			commits(t, x, 1, time, api.OK)
			switch {
			case y.common:
				commits(t, x, 2, 0, api.ErrConflict)
			case len(y.other) > 0:
				commits(t, x, 2, time+1, api.OK)
				time++
			default:
				commits(t, x, 2, 10, api.OK)
			}
			is(t, x, time, time)
		}
	}
}

// P14.1: whoever has touched nothing is never in conflict, and gets no time, but its start.
func TestNothingTouched(t *testing.T) {
	x := mvcc.New(3)
	begin(t, x, 1)
	begin(t, x, 2)
	begin(t, x, 3)
	touch(t, x, 1, vertex(1))
	touch(t, x, 2)
	commits(t, x, 1, 4, api.OK)
	begin(t, x, 4)
	commits(t, x, 2, 3, api.OK)
	is(t, x, 4, 3, 3, 4)
	commits(t, x, 4, 4, api.OK)
	commits(t, x, 3, 3, api.OK)
	is(t, x, 4, 4)
}

// P14.1: a commit counts for those alone that began ahead of it, and only if it went well.
func TestConflicts(t *testing.T) {
	x := mvcc.New(0)
	begin(t, x, 1)
	touch(t, x, 1, vertex(1))
	begin(t, x, 2)
	commits(t, x, 1, 1, api.OK)
	begin(t, x, 3)
	touch(t, x, 2, vertex(1)) // touched behind the other one's commit
	touch(t, x, 3, vertex(1))
	want(t, "Try", x.Try(2), api.ErrConflict)
	want(t, "Try", x.Try(3), api.OK)
	is(t, x, 1, 0, 2, 3)
	commits(t, x, 2, 0, api.ErrConflict)
	is(t, x, 1, 1, 3)
	commits(t, x, 3, 2, api.OK) // what was refused, or given up, has touched nothing
	begin(t, x, 4)
	begin(t, x, 5)
	touch(t, x, 4, edge(9))
	touch(t, x, 5, edge(9))
	want(t, "Abort", x.Abort(4), api.OK)
	isNone(t, x, 4)
	commits(t, x, 5, 3, api.OK)
	is(t, x, 3, 3)
}

// P14.1: of an element the last commit counts, however many there were, and whoever else ends between.
func TestLongTransaction(t *testing.T) {
	x := mvcc.New(0)
	begin(t, x, 1)
	touch(t, x, 1, vertex(100))
	n := 1
	for id := range 50 {
		n++
		begin(t, x, n)
		touch(t, x, n, vertex(id), vertex(id+1))
		commits(t, x, n, int64(id)+1, api.OK)
		n++
		begin(t, x, n)
		want(t, "Abort", x.Abort(n), api.OK)
	}
	is(t, x, 50, 0, 1)
	begin(t, x, n+1)
	touch(t, x, n+1, vertex(0))
	want(t, "Try", x.Try(1), api.OK)
	touch(t, x, 1, vertex(0))
	want(t, "Try", x.Try(1), api.ErrConflict)
	want(t, "Try", x.Try(n+1), api.OK)
	commits(t, x, 1, 0, api.ErrConflict)
	is(t, x, 50, 50, n+1)
	commits(t, x, n+1, 51, api.OK)
}

// P14.1: behind the greatest time there is no commit of what has touched anything; a conflict is told ahead of that.
func TestGreatestTime(t *testing.T) {
	x := mvcc.New(api.MaxTime - 1)
	for n := range 6 {
		begin(t, x, n+1)
	}
	touch(t, x, 1, vertex(1))
	touch(t, x, 2, vertex(1))
	touch(t, x, 3, vertex(3))
	touch(t, x, 4)
	commits(t, x, 1, api.MaxTime, api.OK)
	commits(t, x, 2, 0, api.ErrConflict)
	commits(t, x, 3, 0, api.ErrLong)
	commits(t, x, 4, api.MaxTime-1, api.OK)
	is(t, x, api.MaxTime, api.MaxTime-1, 5, 6)
	touch(t, x, 5, vertex(1), vertex(3))
	commits(t, x, 5, 0, api.ErrConflict)
	want(t, "Abort", x.Abort(6), api.OK)
	is(t, x, api.MaxTime, api.MaxTime)
	begin(t, x, 7)
	touch(t, x, 7, vertex(8))
	begin(t, x, 8)
	commits(t, x, 7, 0, api.ErrLong)
	commits(t, x, 8, api.MaxTime, api.OK)
}

// P14.4: whoever is alone is never in conflict.
func TestAlone(t *testing.T) {
	x := mvcc.New(0)
	for n := range 100 {
		begin(t, x, n+1)
		touch(t, x, n+1, vertex(n%3), edge(n%5))
		commits(t, x, n+1, int64(n)+1, api.OK)
		is(t, x, int64(n)+1, int64(n)+1)
	}
}

// P14.5
func TestArgumentsAndAnswersAreTheirOwners(t *testing.T) {
	x := mvcc.New(0)
	begin(t, x, 1)
	begin(t, x, 2)
	room := []api.Ref{vertex(1), edge(2), vertex(3), vertex(4)}
	before := slices.Clone(room)
	touch(t, x, 1, room[:2]...)
	if !slices.Equal(room, before) {
		t.Fatalf("Touch has changed its arguments: %v", room)
	}
	for i := range room {
		room[i] = vertex(50)
	}
	commits(t, x, 1, 1, api.OK)
	touch(t, x, 2, vertex(50), vertex(3), vertex(4))
	want(t, "Try", x.Try(2), api.OK)
	touch(t, x, 2, edge(2))
	want(t, "Try", x.Try(2), api.ErrConflict)
	begin(t, x, 3)
	one, other := x.Live(), x.Live()
	overwrite(one)
	if !slices.Equal(other, []int{2, 3}) {
		t.Errorf("two answers share memory: %v", other)
	}
	overwrite(other)
	is(t, x, 1, 0, 2, 3)
	y := mvcc.New(0)
	begin(t, y, 1)
	touch(t, y, 1, edge(2))
	commits(t, y, 1, 1, api.OK)
	is(t, x, 1, 0, 2, 3)
}

// overwrite writes over a list and its spare room.
func overwrite(list []int) {
	list = list[:cap(list)]
	for i := range list {
		list[i] = 99
	}
}
