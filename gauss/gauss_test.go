package gauss_test

import (
	"bytes"
	"encoding/hex"
	"math"
	"math/rand/v2"
	"slices"
	"strings"
	"testing"

	"skein/api"
	"skein/gauss"
	"skein/num"
)

const top = api.MaxPart

var (
	less = math.Copysign(0, -1) // nought with a minus sign
	nan  = math.NaN()
	inf  = math.Inf(1)
)

// raw: the bytes that a text of two digits each, apart by spaces, writes.
func raw(t *testing.T, s string) []byte {
	t.Helper()
	b, err := hex.DecodeString(strings.ReplaceAll(s, " ", ""))
	if err != nil {
		t.Fatal(err)
	}
	return b
}

// same: the same parts, signs of noughts too.
func same(a, b complex128) bool {
	return math.Float64bits(real(a)) == math.Float64bits(real(b)) && math.Float64bits(imag(a)) == math.Float64bits(imag(b))
}

// rightParts are parts that fit, wrongParts some that don't.
func rightParts() []float64 {
	return []float64{0, less, 1, -1, 2, -7, 1 << 31, top - 1, top, 1 - top, -top}
}

func wrongParts() []float64 {
	return []float64{nan, inf, -inf, 0.5, -0.5, 1e-300, -math.SmallestNonzeroFloat64, 1.25, top - 0.5, 0.5 - top,
		top + 1, -top - 1, math.Nextafter(top, inf), 1 << 62, 1 << 63, -1 << 63, 1e300, -math.MaxFloat64}
}

// wrong: numbers of which one part or both don't fit.
func wrong() []complex128 {
	var out []complex128
	for _, w := range wrongParts() {
		for _, r := range rightParts() {
			out = append(out, complex(w, r), complex(r, w))
		}
		out = append(out, complex(w, w), complex(w, nan))
	}
	return out
}

// right: numbers that fit, the same ones at every run.
func right(n int) []complex128 {
	var out []complex128
	for _, re := range rightParts() {
		for _, im := range rightParts() {
			out = append(out, complex(re, im))
		}
	}
	r := rand.New(rand.NewPCG(5, 6))
	part := func() float64 {
		p := r.Int64N(top+1) >> r.IntN(50)
		return float64(p * (1 - 2*r.Int64N(2)))
	}
	for range n {
		out = append(out, complex(part(), part()))
	}
	return out
}

// P3.1

func TestFits(t *testing.T) {
	for _, c := range right(500) {
		if !gauss.Fits(c) {
			t.Errorf("Fits(%v) = false", c)
		}
	}
	for _, c := range wrong() {
		if gauss.Fits(c) {
			t.Errorf("Fits(%v) = true", c)
		}
	}
}

func TestOf(t *testing.T) {
	good := []int64{0, 1, -1, 300, top - 1, top, 1 - top, -top}
	bad := []int64{top + 1, -top - 1, 1<<53 + 1, math.MaxInt64, math.MinInt64, math.MinInt64 + 1}
	for _, re := range append(good, bad...) {
		for _, im := range append(good, bad...) {
			want, wantE := complex(float64(re), float64(im)), api.OK
			if slices.Contains(bad, re) || slices.Contains(bad, im) {
				want, wantE = 0, api.ErrPart
			}
			if c, e := gauss.Of(re, im); !same(c, want) || e != wantE {
				t.Errorf("Of(%d, %d) = %v, %d, want %v, %d", re, im, c, e, want, wantE)
			}
		}
	}
}

func TestParts(t *testing.T) {
	for _, c := range right(500) {
		re, im, e := gauss.Parts(c)
		if float64(re) != real(c) || float64(im) != imag(c) || e != api.OK {
			t.Errorf("Parts(%v) = %d, %d, %d", c, re, im, e)
		}
		back, e := gauss.Of(re, im)
		if back != c || e != api.OK {
			t.Errorf("Of(Parts(%v)) = %v, %d", c, back, e)
		}
	}
	for _, c := range wrong() {
		if re, im, e := gauss.Parts(c); re != 0 || im != 0 || e != api.ErrPart {
			t.Errorf("Parts(%v) = %d, %d, %d", c, re, im, e)
		}
	}
}

func TestAdd(t *testing.T) {
	for _, x := range []struct {
		cs  []complex128
		sum complex128
		e   api.Errno
	}{
		{nil, 0, api.OK},
		{[]complex128{}, 0, api.OK},
		{[]complex128{5 - 3i}, 5 - 3i, api.OK},
		{[]complex128{3 + 1i, 4 + 1i}, 7 + 2i, api.OK},
		{[]complex128{3 + 1i, -3 - 1i}, 0, api.OK},
		{[]complex128{1, 1i, -2, -2i, 1, 1i}, 0, api.OK},
		{[]complex128{complex(less, less)}, 0, api.OK},
		{[]complex128{complex(less, 1), complex(less, less)}, 1i, api.OK},
		{[]complex128{top, complex(-top, top), complex(0, -top)}, 0, api.OK},
		{[]complex128{top - 1, 1}, top, api.OK},
		{[]complex128{complex(0, 1-top), -1i}, complex(0, -top), api.OK},

		{[]complex128{complex(top+1, 0)}, 0, api.ErrPart},
		{[]complex128{complex(0, -top-1)}, 0, api.ErrPart},
		{[]complex128{top, 1}, 0, api.ErrPart},
		{[]complex128{complex(0, -top), -1i}, 0, api.ErrPart},
		{[]complex128{top, 1, -1}, 0, api.ErrPart}, // the sum of the first two doesn't fit
		{[]complex128{top, -1, 1}, top, api.OK},
		{[]complex128{complex(top+1, 0), -1}, 0, api.ErrPart}, // the sum fits, a number doesn't
		{[]complex128{-1, complex(top+1, 0)}, 0, api.ErrPart},
		{[]complex128{complex(0.5, 0), complex(0.5, 0)}, 0, api.ErrPart},
		{[]complex128{0.5i, 0.5i}, 0, api.ErrPart},
		{[]complex128{1, complex(0, nan)}, 0, api.ErrPart},
		{[]complex128{complex(inf, 0), complex(-inf, 0)}, 0, api.ErrPart},
	} {
		if sum, e := gauss.Add(x.cs...); !same(sum, x.sum) || e != x.e {
			t.Errorf("Add(%v) = %v, %d, want %v, %d", x.cs, sum, e, x.sum, x.e)
		}
	}
	for _, c := range wrong() {
		for _, cs := range [][]complex128{{c}, {1, c}, {c, 1}} {
			if sum, e := gauss.Add(cs...); sum != 0 || e != api.ErrPart {
				t.Errorf("Add(%v) = %v, %d", cs, sum, e)
			}
		}
	}
}

func TestTurn(t *testing.T) {
	for _, x := range []struct {
		c    complex128
		n    int
		want complex128
	}{
		{3 + 1i, 0, 3 + 1i},
		{3 + 1i, 1, -1 + 3i},
		{3 + 1i, 2, -3 - 1i},
		{3 + 1i, 3, 1 - 3i},
		{3 + 1i, 4, 3 + 1i},
		{3 + 1i, -1, 1 - 3i},
		{3 + 1i, -2, -3 - 1i},
		{3 + 1i, -3, -1 + 3i},
		{3 + 1i, -4, 3 + 1i},
		{3 + 1i, math.MaxInt, 1 - 3i},
		{3 + 1i, math.MinInt, 3 + 1i},
		{3 + 1i, math.MinInt + 1, -1 + 3i},
		{complex(top, -top), 1, complex(top, top)},
		{0, 1, 0},
		{0, 2, 0},
		{5, 1, 5i},
		{5, 2, -5},
		{5i, 1, -5},
		{5i, 2, -5i},
		{complex(less, less), 0, 0},
		{complex(less, 2), 0, 2i},
	} {
		if got, e := gauss.Turn(x.c, x.n); !same(got, x.want) || e != api.OK {
			t.Errorf("Turn(%v, %d) = %v, %d, want %v", x.c, x.n, got, e, x.want)
		}
	}
	for _, c := range wrong() {
		for n := -5; n <= 5; n++ {
			if got, e := gauss.Turn(c, n); got != 0 || e != api.ErrPart {
				t.Errorf("Turn(%v, %d) = %v, %d", c, n, got, e)
			}
		}
	}
}

func TestLess(t *testing.T) {
	for _, x := range []struct {
		a, b complex128
		want bool
	}{
		{3 + 1i, 3 + 2i, true},
		{3 + 2i, 3 + 1i, false},
		{3 + 1i, 3 + 1i, false},
		{3 + 9i, 4 + 1i, true},
		{4 + 1i, 3 + 9i, false},
		{-4 + 1i, 3 - 9i, true},
		{-3, -4, false},
		{complex(less, 1), 2i, true},
		{1i, complex(less, 1), false},
		{complex(less, 1), 1i, false},
		{1i, complex(less, 2), true},
		{complex(1, less), 1, false},
		{1, complex(1, less), false},
		{complex(-top, top), complex(top, -top), true},
	} {
		if got := gauss.Less(x.a, x.b); got != x.want {
			t.Errorf("Less(%v, %v) = %v", x.a, x.b, got)
		}
	}
	for _, c := range wrong() {
		for _, d := range []complex128{complex(-top, -top), 0, complex(top, top), c} {
			if gauss.Less(c, d) || gauss.Less(d, c) {
				t.Errorf("one of %v and %v stands ahead", c, d)
			}
		}
	}
}

func TestLessIsAnOrder(t *testing.T) {
	all := right(30)
	for _, a := range all {
		for _, b := range all {
			n := 0
			for _, is := range []bool{a == b, gauss.Less(a, b), gauss.Less(b, a)} {
				if is {
					n++
				}
			}
			if n != 1 {
				t.Fatalf("%v and %v: %d of three hold", a, b, n)
			}
		}
	}
}

func TestPut(t *testing.T) {
	for _, x := range []struct {
		c    complex128
		want string
	}{
		{0, "00 00"},
		{-1 + 2i, "01 04"},
		{complex(less, less), "00 00"},
		{64 - 65i, "80 01 81 01"},
		{complex(top, -top), "80 80 80 80 80 80 80 04 ff ff ff ff ff ff ff 03"},
	} {
		if got, e := gauss.Put(x.c); !bytes.Equal(got, raw(t, x.want)) || e != api.OK {
			t.Errorf("Put(%v) = % x, %d, want %s", x.c, got, e, x.want)
		}
	}
	for _, c := range wrong() {
		if got, e := gauss.Put(c); got != nil || e != api.ErrPart {
			t.Errorf("Put(%v) = % x, %d", c, got, e)
		}
	}
}

func TestGet(t *testing.T) {
	const wide = "ff ff ff ff ff ff ff ff ff 02"
	const above = "82 80 80 80 80 80 80 04" // MaxPart and 1
	const below = "81 80 80 80 80 80 80 04" // -MaxPart - 1
	for _, x := range []struct {
		b    string
		at   int
		c    complex128
		next int
		e    api.Errno
	}{
		{"01 04", 0, -1 + 2i, 2, api.OK},
		{"01 04 09", 0, -1 + 2i, 2, api.OK},
		{"ff 01 04", 1, -1 + 2i, 3, api.OK},
		{"00 00", 0, 0, 2, api.OK},
		{"80 80 80 80 80 80 80 04 ff ff ff ff ff ff ff 03", 0, complex(top, -top), 16, api.OK},

		{"01 04", -1, 0, 0, api.ErrArg},
		{"01 04", 3, 0, 0, api.ErrArg},
		{"", 0, 0, 0, api.ErrShort},
		{"01 04", 2, 0, 0, api.ErrShort},
		{"81", 0, 0, 0, api.ErrShort},
		{wide, 0, 0, 0, api.ErrWide},
		{"81 00 04", 0, 0, 0, api.ErrForm},

		{"01", 0, 0, 0, api.ErrShort},
		{"01 84", 0, 0, 0, api.ErrShort},
		{"01 " + wide, 0, 0, 0, api.ErrWide},
		{"01 84 00", 0, 0, 0, api.ErrForm},

		{above + " 00", 0, 0, 0, api.ErrPart},
		{below + " 00", 0, 0, 0, api.ErrPart},
		{"00 " + above, 0, 0, 0, api.ErrPart},
		{"00 " + below, 0, 0, 0, api.ErrPart},
		{"fe ff ff ff ff ff ff ff ff 01 00", 0, 0, 0, api.ErrPart},
		{above, 0, 0, 0, api.ErrShort}, // looked for behind the errors of the second part
		{above + " 84 00", 0, 0, 0, api.ErrForm},
		{above + wide, 0, 0, 0, api.ErrWide},
	} {
		if c, next, e := gauss.Get(raw(t, x.b), x.at); !same(c, x.c) || next != x.next || e != x.e {
			t.Errorf("Get(%s, %d) = %v, %d, %d, want %v, %d, %d", x.b, x.at, c, next, e, x.c, x.next, x.e)
		}
	}
	for _, at := range []int{math.MinInt, math.MaxInt} {
		if c, next, e := gauss.Get([]byte{1, 4}, at); c != 0 || next != 0 || e != api.ErrArg {
			t.Errorf("Get at %d = %v, %d, %d", at, c, next, e)
		}
	}
}

// P3.2

func TestFourTurnsAreNone(t *testing.T) {
	for _, c := range right(500) {
		plain, _ := gauss.Add(c)
		turned := c
		for range 4 {
			turned, _ = gauss.Turn(turned, 1)
		}
		if !same(turned, plain) {
			t.Errorf("%v, turned four times, is %v", c, turned)
		}
		for n := -9; n <= 9; n++ {
			there, _ := gauss.Turn(c, n)
			back, e := gauss.Turn(there, -n)
			if !same(back, plain) || e != api.OK {
				t.Errorf("%v, turned %d times and back, is %v, %d", c, n, back, e)
			}
			if again, _ := gauss.Turn(c, n+4); !same(again, there) {
				t.Errorf("%v, turned %d times, is %v, four times more %v", c, n, there, again)
			}
			once, _ := gauss.Turn(there, 1)
			if next, _ := gauss.Turn(c, n+1); !same(once, next) {
				t.Errorf("%v, turned %d times and once more, is %v, not %v", c, n, once, next)
			}
		}
	}
}

func TestATurnKeepsSums(t *testing.T) {
	all := right(500)
	for i, a := range all {
		b := all[(i*7+3)%len(all)]
		sum, e := gauss.Add(a, b)
		for n := range 4 {
			turnedA, _ := gauss.Turn(a, n)
			turnedB, _ := gauss.Turn(b, n)
			of, ofE := gauss.Add(turnedA, turnedB)
			if ofE != e {
				t.Fatalf("the sum of %v and %v: %d, turned %d", a, b, e, ofE)
			}
			if e != api.OK {
				continue
			}
			if turned, _ := gauss.Turn(sum, n); !same(turned, of) {
				t.Errorf("%v and %v, turned %d times: the sum turned is %v, the sum of what is turned %v", a, b, n, turned, of)
			}
		}
	}
}

// P3.3

func TestASumDoesNotHangOnTheOrder(t *testing.T) {
	r := rand.New(rand.NewPCG(7, 8))
	for range 500 {
		cs := make([]complex128, r.IntN(12))
		var re, im int64
		for i := range cs {
			a, b := r.Int64N(top/8)-top/16, r.Int64N(top/8)-top/16
			cs[i] = complex(float64(a), float64(b))
			re, im = re+a, im+b
		}
		want := complex(float64(re), float64(im))
		for range 5 {
			r.Shuffle(len(cs), func(i, j int) { cs[i], cs[j] = cs[j], cs[i] })
			if sum, e := gauss.Add(cs...); !same(sum, want) || e != api.OK {
				t.Fatalf("Add(%v) = %v, %d, want %v", cs, sum, e, want)
			}
		}
	}
}

// P3.4

func TestThereAndBack(t *testing.T) {
	for _, c := range right(2000) {
		b, e := gauss.Put(c)
		if e != api.OK {
			t.Fatalf("Put(%v): %d", c, e)
		}
		plain, _ := gauss.Add(c)
		if got, next, e := gauss.Get(b, 0); !same(got, plain) || next != len(b) || e != api.OK {
			t.Errorf("Get(Put(%v)) = %v, %d, %d", c, got, next, e)
		}
		for cut := range b {
			if _, _, e := gauss.Get(b[:cut], 0); e != api.ErrShort {
				t.Errorf("% x, cut at %d: %d", b, cut, e)
			}
		}
	}
}

func TestOneFormAlone(t *testing.T) {
	r := rand.New(rand.NewPCG(9, 10))
	good := 0
	for range 30000 {
		var b []byte
		for range 2 {
			for range r.IntN(9) {
				b = append(b, byte(r.Uint32())|128)
			}
			b = append(b, byte(r.IntN(4)))
		}
		c, next, e := gauss.Get(b, 0)
		if e != api.OK {
			continue
		}
		good++
		if again, e := gauss.Put(c); !bytes.Equal(again, b[:next]) || e != api.OK {
			t.Fatalf("% x is got as %v, which is put as % x, %d", b, c, again, e)
		}
	}
	if good < 1000 {
		t.Errorf("only %d of the bytes are numbers", good)
	}
}

func TestArgumentsStayAsTheyAre(t *testing.T) {
	whole := []byte{1, 4, 9, 9, 9, 9, 9, 9}
	gauss.Get(whole[:2], 0)
	gauss.Get(whole[:1], 0)
	if !bytes.Equal(whole, []byte{1, 4, 9, 9, 9, 9, 9, 9}) {
		t.Errorf("the bytes have become % x", whole)
	}
	cs := []complex128{complex(less, 1), 2, 3i, 9, 9}
	was := slices.Clone(cs)
	gauss.Add(cs[:3]...)
	if !slices.EqualFunc(cs, was, same) {
		t.Errorf("the numbers have become %v", cs)
	}
}

func TestAnswersAreNewMemory(t *testing.T) {
	for _, c := range []complex128{0, 1, -1 + 2i, top} {
		first, _ := gauss.Put(c)
		second, _ := gauss.Put(c)
		kept := bytes.Clone(second)
		first = first[:cap(first)]
		for i := range first {
			first[i] = 0xee
		}
		third, _ := gauss.Put(c)
		if !bytes.Equal(second, kept) || !bytes.Equal(third, kept) {
			t.Errorf("Put(%v) shares its memory", c)
		}
	}
}

// Bytes of a number of layer 1 stand for the parts: no other form is read.
func TestPartsAreNumbersOfLayerOne(t *testing.T) {
	for _, c := range right(200) {
		re, im, _ := gauss.Parts(c)
		want := append(num.PutS(re), num.PutS(im)...)
		if got, e := gauss.Put(c); !bytes.Equal(got, want) || e != api.OK {
			t.Errorf("Put(%v) = % x, %d, want % x", c, got, e, want)
		}
	}
}
