package treap_test

import (
	"math"
	"math/rand/v2"
	"slices"
	"testing"

	"skein/api"
	"skein/treap"
)

// text is bytes: which of two stands ahead can be told from what both bear.
type text string

func (t text) Plus(o text) text { return t + o }

// least is the lesser of two; none of its values, zero neither, adds nothing.
type least int

func (l least) Plus(o least) least { return min(l, o) }

// odd are numbers that no node has.
var odd = []int{0, -1, math.MinInt, math.MaxInt, 1 << 32, 1<<32 + 1}

// manySeeds is what chance may say.
func manySeeds() map[string][]int {
	r := rand.New(rand.NewPCG(15, 0))
	seeds := map[string][]int{
		"none":     nil,
		"empty":    {},
		"nought":   {0},
		"one":      {7},
		"two":      {3, -3},
		"greatest": {math.MaxInt, math.MinInt},
	}
	for i := range 1000 {
		seeds["rising"] = append(seeds["rising"], i)
		seeds["falling"] = append(seeds["falling"], -i)
		seeds["any"] = append(seeds["any"], int(r.Uint64()))
		seeds["few"] = append(seeds["few"], r.IntN(3))
	}
	return seeds
}

// want holds an error against the one that is wanted.
func want(t *testing.T, what string, got, want api.Errno) {
	t.Helper()
	if got != want {
		t.Fatalf("%s = %d, want %d", what, got, want)
	}
}

// got holds an answer that is OK against the one that is wanted.
func got[A comparable](t *testing.T, what string, x A, e api.Errno, wanted A) {
	t.Helper()
	if x != wanted || e != api.OK {
		t.Fatalf("%s = %v, %d, want %v", what, x, e, wanted)
	}
}

// fails holds an answer that is none against the error that is wanted.
func fails[A comparable](t *testing.T, what string, x A, e, wanted api.Errno) {
	t.Helper()
	var zero A
	if x != zero || e != wanted {
		t.Fatalf("%s = %v, %d, want %d", what, x, e, wanted)
	}
}

// lists holds a row against the one that is wanted.
func lists[T treap.Summer[T]](t *testing.T, r *treap.Rope[T], wanted ...int) {
	t.Helper()
	for _, a := range wanted {
		if row, e := r.List(a); e != api.OK || !slices.Equal(row, wanted) {
			t.Fatalf("List(%d) = %v, %d, want %v", a, row, e, wanted)
		}
	}
}

// made is a rope with nodes that bear these.
func made[T treap.Summer[T]](t *testing.T, seeds []int, bear ...T) *treap.Rope[T] {
	t.Helper()
	r := treap.New[T](seeds...)
	for i, v := range bear {
		a, e := r.Make(v)
		got(t, "Make", a, e, i+1)
	}
	return r
}

// row is a rope of one row, in the order of its nodes' numbers.
func row[T treap.Summer[T]](t *testing.T, seeds []int, bear ...T) *treap.Rope[T] {
	t.Helper()
	r := made(t, seeds, bear...)
	for i := 2; i <= len(bear); i++ {
		want(t, "Join", r.Join(i-1, i), api.OK)
	}
	return r
}

func TestExample(t *testing.T) {
	r := made(t, nil, treap.Sum{N: 5}, treap.Sum{N: 6}, treap.Sum{N: 7})
	want(t, "Join", r.Join(2, 1), api.OK)
	want(t, "Join", r.Join(1, 3), api.OK)
	lists(t, r, 2, 1, 3)
	all, e := r.All(1)
	got(t, "All", all, e, treap.Sum{N: 18})
	i, e := r.Index(1)
	got(t, "Index", i, e, 1)
	want(t, "Cut", r.Cut(1), api.OK)
	lists(t, r, 2)
	lists(t, r, 1, 3)
}

func TestSum(t *testing.T) {
	for _, x := range []struct{ a, b, both treap.Sum }{
		{treap.Sum{}, treap.Sum{}, treap.Sum{}},
		{treap.Sum{N: 3, Marks: 4}, treap.Sum{N: 5, Marks: 6}, treap.Sum{N: 8, Marks: 10}},
		{treap.Sum{N: -3, Marks: 1}, treap.Sum{N: 3}, treap.Sum{Marks: 1}},
		{treap.Sum{N: math.MaxInt64}, treap.Sum{N: 1}, treap.Sum{N: math.MinInt64}},
		{treap.Sum{N: math.MinInt64}, treap.Sum{N: -1}, treap.Sum{N: math.MaxInt64}},
		{treap.Sum{N: math.MinInt64}, treap.Sum{N: math.MinInt64}, treap.Sum{}},
		{treap.Sum{Marks: -2}, treap.Sum{Marks: 5}, treap.Sum{Marks: 3}},
	} {
		if x.a.Plus(x.b) != x.both || x.b.Plus(x.a) != x.both {
			t.Errorf("%v plus %v = %v, want %v", x.a, x.b, x.a.Plus(x.b), x.both)
		}
	}
	r := row(t, nil, treap.Sum{N: math.MaxInt64, Marks: 1}, treap.Sum{N: math.MaxInt64}, treap.Sum{N: 5, Marks: 3})
	all, e := r.All(2)
	got(t, "All", all, e, treap.Sum{N: 3, Marks: 4})
}

// P15.1: a node that isn't there is told ahead of all else; nothing comes of it.
func TestNoSuchNode(t *testing.T) {
	r := made[text](t, nil)
	for n := range 4 {
		for _, a := range append(odd, n+1) {
			noNode(t, r, a, n)
		}
		if n > 0 {
			lists(t, r, n)
		}
		v, e := r.Make("x")
		got(t, "Make", v, e, n+1)
	}
}

// noNode wants ErrNode of every call; there are n nodes.
func noNode(t *testing.T, r *treap.Rope[text], a, n int) {
	t.Helper()
	want(t, "Set", r.Set(a, "y"), api.ErrNode)
	want(t, "Cut", r.Cut(a), api.ErrNode)
	v, e := r.Value(a)
	fails(t, "Value", v, e, api.ErrNode)
	v, e = r.All(a)
	fails(t, "All", v, e, api.ErrNode)
	i, e := r.Index(a)
	fails(t, "Index", i, e, api.ErrNode)
	i, e = r.Size(a)
	fails(t, "Size", i, e, api.ErrNode)
	for _, place := range []int{0, -1, math.MaxInt} {
		i, e = r.At(a, place)
		fails(t, "At", i, e, api.ErrNode)
	}
	for _, has := range []func(text) bool{nil, func(text) bool { return true }, func(text) bool { panic("asked") }} {
		i, e = r.Seek(a, has)
		fails(t, "Seek", i, e, api.ErrNode)
	}
	if row, e := r.List(a); len(row) > 0 || e != api.ErrNode {
		t.Fatalf("List = %v, %d", row, e)
	}
	for _, b := range append(odd, n, n+1) {
		want(t, "Join", r.Join(a, b), api.ErrNode)
		want(t, "Join", r.Join(b, a), api.ErrNode)
		same, e := r.Same(a, b)
		fails(t, "Same", same, e, api.ErrNode)
		same, e = r.Same(b, a)
		fails(t, "Same", same, e, api.ErrNode)
	}
}

// P15.1: what is in one row isn't joined.
func TestJoinInOneRow(t *testing.T) {
	r := row[text](t, nil, "a", "b", "c", "d")
	for a := 1; a <= 4; a++ {
		for b := 1; b <= 4; b++ {
			want(t, "Join", r.Join(a, b), api.ErrLink)
		}
	}
	lists(t, r, 1, 2, 3, 4)
	want(t, "Cut", r.Cut(3), api.OK)
	want(t, "Join", r.Join(1, 2), api.ErrLink)
	want(t, "Join", r.Join(4, 4), api.ErrLink)
	want(t, "Join", r.Join(4, 1), api.OK)
	lists(t, r, 3, 4, 1, 2)
}

// P15.1: a cut ahead of a row's first node leaves all as it was.
func TestCutAtTheFirst(t *testing.T) {
	r := row[text](t, nil, "a", "b", "c")
	want(t, "Cut", r.Cut(1), api.OK)
	lists(t, r, 1, 2, 3)
	want(t, "Cut", r.Cut(2), api.OK)
	for a := 1; a <= 3; a++ {
		if a < 3 {
			want(t, "Cut", r.Cut(a), api.OK)
		}
	}
	lists(t, r, 1)
	lists(t, r, 2, 3)
	all, e := r.All(3)
	got(t, "All", all, e, "bc")
}

// P15.1: places in a row, and those that are none.
func TestPlaces(t *testing.T) {
	r := row[text](t, nil, "a", "b", "c", "d", "e")
	want(t, "Cut", r.Cut(3), api.OK)
	want(t, "Join", r.Join(3, 1), api.OK)
	order := []int{3, 4, 5, 1, 2}
	lists(t, r, order...)
	for i, a := range order {
		place, e := r.Index(a)
		got(t, "Index", place, e, i)
		for _, b := range order {
			at, e := r.At(b, i)
			got(t, "At", at, e, a)
		}
		for _, i := range []int{-1, -5, 5, 6, math.MinInt, math.MaxInt, 1 << 32} {
			at, e := r.At(a, i)
			fails(t, "At", at, e, api.ErrArg)
		}
	}
}

// P15.1: as many nodes as may be, whatever chance says, in one row.
func TestMany(t *testing.T) {
	seeds := manySeeds()
	seeds["more than nodes"] = make([]int, api.MaxNodes+10)
	for name, seeds := range seeds {
		r := treap.New[treap.Sum](seeds...)
		for n := 1; n <= api.MaxNodes; n++ {
			if a, e := r.Make(treap.Sum{N: int64(n), Marks: 1}); a != n || e != api.OK {
				t.Fatalf("%s: Make = %d, %d, want %d", name, a, e, n)
			}
			if n > 1 && r.Join(n-1, n) != api.OK {
				t.Fatalf("%s: Join(%d)", name, n)
			}
		}
		for range 2 {
			a, e := r.Make(treap.Sum{})
			fails(t, name, a, e, api.ErrMany)
		}
		want(t, name, r.Set(api.MaxNodes+1, treap.Sum{}), api.ErrNode)
		size, e := r.Size(77)
		got(t, name, size, e, api.MaxNodes)
		all, e := r.All(1)
		got(t, name, all, e, treap.Sum{N: api.MaxNodes * (api.MaxNodes + 1) / 2, Marks: api.MaxNodes})
		for n := 1; n <= api.MaxNodes; n += 1001 {
			i, e := r.Index(n)
			got(t, name, i, e, n-1)
			a, e := r.At(api.MaxNodes, n-1)
			got(t, name, a, e, n)
		}
		// The whole row the other way round, node by node.
		for n := api.MaxNodes; n > 1; n-- {
			if r.Cut(n) != api.OK || n < api.MaxNodes && r.Join(n+1, n) != api.OK {
				t.Fatalf("%s: Cut, Join(%d)", name, n)
			}
		}
		want(t, name, r.Join(2, 1), api.OK)
		row, _ := r.List(5)
		for i, a := range row {
			if a != api.MaxNodes-i {
				t.Fatalf("%s: at %d stands %d", name, i, a)
			}
		}
	}
}

// P15.1: what a row bears where nothing is neutral, and where order counts.
func TestWhatARowBears(t *testing.T) {
	for _, seeds := range manySeeds() {
		r := row[least](t, seeds, 5, 3, 9, 4)
		for a, wanted := range map[int]least{1: 3, 2: 3, 3: 3, 4: 3} {
			all, e := r.All(a)
			got(t, "All", all, e, wanted)
		}
		want(t, "Cut", r.Cut(3), api.OK)
		for a, wanted := range map[int]least{1: 3, 2: 3, 3: 4, 4: 4} {
			all, e := r.All(a)
			got(t, "All", all, e, wanted)
		}
		want(t, "Set", r.Set(2, 8), api.OK)
		all, e := r.All(1)
		got(t, "All", all, e, 5)
		v, e := r.Value(2)
		got(t, "Value", v, e, 8)
		v, e = r.Value(1)
		got(t, "Value", v, e, 5)

		s := row[text](t, seeds, "a", "b", "", "cd", "e")
		word, e := s.All(3)
		got(t, "All", word, e, "abcde")
		want(t, "Set", s.Set(3, "xyz"), api.OK)
		word, e = s.All(1)
		got(t, "All", word, e, "abxyzcde")
		want(t, "Cut", s.Cut(2), api.OK)
		want(t, "Join", s.Join(5, 1), api.OK)
		word, e = s.All(1)
		got(t, "All", word, e, "bxyzcdea")
	}
}

// P15.1: the first node that has something.
func TestSeek(t *testing.T) {
	marked := func(s treap.Sum) bool { return s.Marks > 0 }
	for _, seeds := range manySeeds() {
		r := row(t, seeds, make([]treap.Sum, 40)...)
		want(t, "Cut", r.Cut(31), api.OK)
		seek := func(a, wanted int) {
			t.Helper()
			found, e := r.Seek(a, marked)
			got(t, "Seek", found, e, wanted)
		}
		seek(1, 0)
		seek(40, 0)
		for a := 30; a > 0; a-- {
			want(t, "Set", r.Set(a, treap.Sum{Marks: 1}), api.OK)
			for _, b := range []int{1, a, 30} {
				seek(b, a)
			}
			seek(31, 0)
		}
		for a := 1; a < 30; a++ {
			want(t, "Set", r.Set(a, treap.Sum{N: 1}), api.OK)
			seek(15, a+1)
		}
		want(t, "Join", r.Join(31, 1), api.OK)
		seek(31, 30)
		want(t, "Cut", r.Cut(30), api.OK)
		seek(31, 0)
		seek(30, 30)
	}
}

// P1, P15.1: a has that is no has, or contradicts itself, ends nothing but the seeking.
func TestSeekWithoutAHas(t *testing.T) {
	for _, seeds := range manySeeds() {
		r := row(t, seeds, make([]treap.Sum, 50)...)
		for a := range 50 {
			want(t, "Set", r.Set(a+1, treap.Sum{N: int64(a), Marks: 1}), api.OK)
		}
		for a := 1; a <= 50; a++ {
			found, e := r.Seek(a, nil)
			got(t, "Seek", found, e, 0)
			found, e = r.Seek(a, func(treap.Sum) bool { panic("has") })
			got(t, "Seek", found, e, 0)
			found, e = r.Seek(a, func(s treap.Sum) bool { return s.Marks == 50 })
			got(t, "Seek", found, e, 0)
			found, e = r.Seek(a, func(treap.Sum) bool { return true })
			got(t, "Seek", found, e, 1)
			asked := 0
			_, e = r.Seek(a, func(treap.Sum) bool { asked++; return asked%3 == 1 })
			want(t, "Seek", e, api.OK)
			// One that asks the rope itself, and one that changes it.
			found, e = r.Seek(a, func(s treap.Sum) bool {
				size, e := r.Size(a)
				return size == 50 && e == api.OK && s.N >= 0
			})
			got(t, "Seek", found, e, 1)
			_, e = r.Seek(a, func(treap.Sum) bool {
				first, _ := r.At(a, 0)
				r.Cut(a)
				r.Join(a, first)
				return true
			})
			want(t, "Seek", e, api.OK)
			first, _ := r.At(a, 0)
			want(t, "Cut", r.Cut(1), api.OK)
			if first != 1 {
				want(t, "Join", r.Join(1, first), api.OK)
			}
		}
		size, e := r.Size(1)
		got(t, "Size", size, e, 50)
	}
}

// box is what a node bears by a pointer; it can't be put to anything if it is nil, nor with a nil one.
type box struct{ n int }

func (b *box) Plus(o *box) *box { return &box{b.n + o.n} }

// plain is what a node bears by an interface.
type plain interface{ Plus(plain) plain }

type number int

func (n number) Plus(o plain) plain { return n + o.(number) }

// P1: what a node is given may be nil; the rows are as ever.
func TestNilIsBorne(t *testing.T) {
	for _, seeds := range manySeeds() {
		nils(t, row[*box](t, seeds, nil, &box{1}, nil, nil, &box{2}, &box{3}, nil), nil, &box{4})
		nils[plain](t, row[plain](t, seeds, nil, number(1), nil, nil, number(2), number(3), nil), nil, number(4))
	}
}

func nils[T treap.Summer[T]](t *testing.T, r *treap.Rope[T], none, some T) {
	t.Helper()
	lists(t, r, 1, 2, 3, 4, 5, 6, 7)
	_, e := r.All(1)
	want(t, "All", e, api.OK)
	want(t, "Set", r.Set(6, none), api.OK)
	want(t, "Cut", r.Cut(4), api.OK)
	want(t, "Join", r.Join(7, 2), api.OK)
	lists(t, r, 4, 5, 6, 7, 1, 2, 3)
	found, e := r.Seek(4, func(T) bool { return false })
	got(t, "Seek", found, e, 0)
	for a := 1; a <= 7; a++ {
		want(t, "Set", r.Set(a, some), api.OK)
	}
	found, e = r.Seek(4, func(v T) bool { return any(v) != nil })
	got(t, "Seek", found, e, 4)
}

// P15.2: a cut at a join's seam undoes it, and a join at a cut's.
func TestSeam(t *testing.T) {
	const letters = text("abcdefghijkl")
	for _, seeds := range manySeeds() {
		for ahead := 1; ahead < 12; ahead++ {
			r := row[text](t, seeds, "a", "b", "c", "d", "e", "f", "g", "h", "i", "j", "k", "l")
			one := []int{1, 2, 3, 4, 5, 6, 7, 8, 9, 10, 11, 12}
			for a := 1; a <= 12; a++ {
				want(t, "Cut", r.Cut(ahead+1), api.OK)
				lists(t, r, one[:ahead]...)
				lists(t, r, one[ahead:]...)
				all, e := r.All(1)
				got(t, "All", all, e, letters[:ahead])
				all, e = r.All(12)
				got(t, "All", all, e, letters[ahead:])
				same, e := r.Same(a, ahead)
				got(t, "Same", same, e, a <= ahead)
				want(t, "Join", r.Join(min(a, ahead), max(a, ahead+1)), api.OK)
				lists(t, r, one...)
				all, e = r.All(a)
				got(t, "All", all, e, letters)
			}
		}
	}
}

// P15.3, and what is handed in is neither changed nor kept.
func TestArgumentsAndAnswersAreTheirOwners(t *testing.T) {
	seeds := []int{1, 2, 3, 4, 5}
	r := made[text](t, seeds[:3], "a", "b")
	if !slices.Equal(seeds, []int{1, 2, 3, 4, 5}) {
		t.Fatalf("New has changed its seeds: %v", seeds)
	}
	overwrite(seeds)
	s := made[text](t, nil, "c", "d", "e")
	want(t, "Join", r.Join(2, 1), api.OK)
	want(t, "Join", s.Join(1, 2), api.OK)
	want(t, "Join", s.Join(3, 1), api.OK)
	want(t, "Set", s.Set(2, "f"), api.OK)
	lists(t, r, 2, 1)
	lists(t, s, 3, 1, 2)
	all, e := r.All(1)
	got(t, "All", all, e, "ba")
	all, e = s.All(1)
	got(t, "All", all, e, "ecf")
	a, e := r.Make("z")
	got(t, "Make", a, e, 3)
	a, e = s.Make("y")
	got(t, "Make", a, e, 4)

	one, _ := s.List(1)
	other, _ := s.List(1)
	overwrite(one)
	if !slices.Equal(other, []int{3, 1, 2}) {
		t.Fatalf("two answers share memory: %v", other)
	}
	overwrite(other)
	lists(t, s, 3, 1, 2)
}

// overwrite writes over a list and its spare room.
func overwrite(list []int) {
	list = list[:cap(list)]
	for i := range list {
		list[i] = 99
	}
}
