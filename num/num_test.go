package num_test

import (
	"bytes"
	"encoding/hex"
	"math"
	"math/bits"
	"math/rand/v2"
	"slices"
	"strings"
	"testing"

	"skein/api"
	"skein/num"
)

// raw: the bytes that a text of two digits each, apart by spaces, writes.
func raw(t *testing.T, s string) []byte {
	t.Helper()
	b, err := hex.DecodeString(strings.ReplaceAll(s, " ", ""))
	if err != nil {
		t.Fatal(err)
	}
	return b
}

// times: the same byte n times, as raw reads it.
func times(n int, b string) string { return strings.Repeat(b+" ", n) }

// chance: numbers of all sizes, the same ones at every run.
func chance(n int) []uint64 {
	r := rand.New(rand.NewPCG(1, 2))
	out := []uint64{0, 1, math.MaxUint64, math.MaxInt64, 1 << 63}
	for range n {
		out = append(out, r.Uint64()>>r.IntN(64))
	}
	for i := range 64 {
		out = append(out, 1<<i, 1<<i-1, 1<<i+1)
	}
	return out
}

// scraps: bytes of which many are numbers and many are not: all of up to two, and longer ones.
func scraps() [][]byte {
	out := [][]byte{nil}
	for a := range 256 {
		out = append(out, []byte{byte(a)})
		for b := range 256 {
			out = append(out, []byte{byte(a), byte(b)})
		}
	}
	r := rand.New(rand.NewPCG(3, 4))
	ends := []byte{0, 1, 2, 127, 128, 255}
	for range 20000 {
		b := make([]byte, r.IntN(12))
		for i := range b {
			b[i] = byte(r.Uint32()) | 128
		}
		b = append(b, ends[r.IntN(len(ends))])
		out = append(out, append(b, byte(r.Uint32())))
	}
	return out
}

// P1.1

func TestPut(t *testing.T) {
	for _, x := range []struct {
		u    uint64
		want string
	}{
		{0, "00"},
		{1, "01"},
		{127, "7f"},
		{128, "80 01"},
		{300, "ac 02"},
		{16383, "ff 7f"},
		{16384, "80 80 01"},
		{math.MaxInt64, times(8, "ff") + "7f"},
		{1 << 63, times(9, "80") + "01"},
		{math.MaxUint64, times(9, "ff") + "01"},
	} {
		if got := num.Put(x.u); !bytes.Equal(got, raw(t, x.want)) {
			t.Errorf("Put(%d) = % x, want %s", x.u, got, x.want)
		}
	}
}

func TestPutNeedsAsFewBytesAsCanBe(t *testing.T) {
	for _, u := range chance(5000) {
		want := max(1, (bits.Len64(u)+6)/7)
		if got := num.Put(u); len(got) != want {
			t.Errorf("Put(%d) has %d bytes, want %d", u, len(got), want)
		}
	}
}

func TestGet(t *testing.T) {
	for _, x := range []struct {
		b    string
		at   int
		u    uint64
		next int
		e    api.Errno
	}{
		{"00", 0, 0, 1, api.OK},
		{"7f", 0, 127, 1, api.OK},
		{"ac 02", 0, 300, 2, api.OK},
		{"ac 02 ac 02", 2, 300, 4, api.OK},
		{"ac 02 07 80", 2, 7, 3, api.OK},
		{"00 00", 1, 0, 2, api.OK},
		{"ac 02", 1, 2, 2, api.OK},
		{times(9, "80") + "01", 0, 1 << 63, 10, api.OK},
		{times(9, "ff") + "01", 0, math.MaxUint64, 10, api.OK},
		{times(9, "ff") + "01 ff", 0, math.MaxUint64, 10, api.OK},
		{times(10, "ff") + "01", 1, math.MaxUint64, 11, api.OK},

		{"", -1, 0, 0, api.ErrArg},
		{"", 1, 0, 0, api.ErrArg},
		{"05", -1, 0, 0, api.ErrArg},
		{"05", 2, 0, 0, api.ErrArg},
		{"05", math.MinInt, 0, 0, api.ErrArg},
		{"05", math.MaxInt, 0, 0, api.ErrArg},

		{"", 0, 0, 0, api.ErrShort},
		{"05", 1, 0, 0, api.ErrShort},
		{"80", 0, 0, 0, api.ErrShort},
		{"05 80", 1, 0, 0, api.ErrShort},
		{times(9, "80"), 0, 0, 0, api.ErrShort},
		{times(9, "ff"), 0, 0, 0, api.ErrShort},

		{times(9, "80") + "02", 0, 0, 0, api.ErrWide},
		{times(9, "80") + "7f", 0, 0, 0, api.ErrWide},
		{times(9, "80") + "80", 0, 0, 0, api.ErrWide},
		{times(9, "80") + "81", 0, 0, 0, api.ErrWide},
		{times(9, "80") + "80 00", 0, 0, 0, api.ErrWide},
		{times(12, "ff"), 0, 0, 0, api.ErrWide},
		{"00 " + times(9, "ff") + "02", 1, 0, 0, api.ErrWide},

		{"80 00", 0, 0, 0, api.ErrForm},
		{"ff 00", 0, 0, 0, api.ErrForm},
		{"05 80 00", 1, 0, 0, api.ErrForm},
		{times(8, "ff") + "00", 0, 0, 0, api.ErrForm},
		{times(9, "ff") + "00", 0, 0, 0, api.ErrForm},
	} {
		if u, next, e := num.Get(raw(t, x.b), x.at); u != x.u || next != x.next || e != x.e {
			t.Errorf("Get(%s, %d) = %d, %d, %d, want %d, %d, %d", x.b, x.at, u, next, e, x.u, x.next, x.e)
		}
	}
}

func TestPutS(t *testing.T) {
	for _, x := range []struct {
		v    int64
		want string
	}{
		{0, "00"},
		{-1, "01"},
		{1, "02"},
		{-3, "05"},
		{63, "7e"},
		{-64, "7f"},
		{64, "80 01"},
		{-65, "81 01"},
		{math.MaxInt64, "fe " + times(8, "ff") + "01"},
		{math.MinInt64, times(9, "ff") + "01"},
	} {
		if got := num.PutS(x.v); !bytes.Equal(got, raw(t, x.want)) {
			t.Errorf("PutS(%d) = % x, want %s", x.v, got, x.want)
		}
	}
}

func TestGetS(t *testing.T) {
	for _, x := range []struct {
		b    string
		at   int
		v    int64
		next int
		e    api.Errno
	}{
		{"00", 0, 0, 1, api.OK},
		{"01", 0, -1, 1, api.OK},
		{"02", 0, 1, 1, api.OK},
		{"05 09", 0, -3, 1, api.OK},
		{"05 81 01", 1, -65, 3, api.OK},
		{"fe " + times(8, "ff") + "01", 0, math.MaxInt64, 10, api.OK},
		{times(9, "ff") + "01", 0, math.MinInt64, 10, api.OK},

		{"05", -1, 0, 0, api.ErrArg},
		{"05", 2, 0, 0, api.ErrArg},
		{"05", 1, 0, 0, api.ErrShort},
		{"81", 0, 0, 0, api.ErrShort},
		{times(9, "81") + "02", 0, 0, 0, api.ErrWide},
		{"81 00", 0, 0, 0, api.ErrForm},
	} {
		if v, next, e := num.GetS(raw(t, x.b), x.at); v != x.v || next != x.next || e != x.e {
			t.Errorf("GetS(%s, %d) = %d, %d, %d, want %d, %d, %d", x.b, x.at, v, next, e, x.v, x.next, x.e)
		}
	}
}

func TestPutText(t *testing.T) {
	for _, x := range []struct{ s, want string }{
		{"", "00"},
		{"00", "01 00"},
		{"61 62", "02 61 62"},
		{times(127, "ff"), "7f " + times(127, "ff")},
		{times(128, "80"), "80 01 " + times(128, "80")},
	} {
		if got := num.PutText(raw(t, x.s)); !bytes.Equal(got, raw(t, x.want)) {
			t.Errorf("PutText(%s) = % x, want %s", x.s, got, x.want)
		}
	}
	if got := num.PutText(nil); !bytes.Equal(got, []byte{0}) {
		t.Errorf("PutText(nil) = % x", got)
	}
}

func TestGetText(t *testing.T) {
	for _, x := range []struct {
		b        string
		at, most int
		s        string
		next     int
		e        api.Errno
	}{
		{"00", 0, 0, "", 1, api.OK},
		{"00", 0, -1, "", 1, api.OK},
		{"00 61", 0, math.MinInt, "", 1, api.OK},
		{"02 61 62", 0, 2, "61 62", 3, api.OK},
		{"02 61 62 63", 0, 9, "61 62", 3, api.OK},
		{"09 02 61 62", 1, math.MaxInt, "61 62", 4, api.OK},
		{"80 01 " + times(128, "07") + "08", 0, 128, times(128, "07"), 130, api.OK},

		{"02 61 62", -1, 9, "", 0, api.ErrArg},
		{"02 61 62", 4, 9, "", 0, api.ErrArg},
		{"", 1, -1, "", 0, api.ErrArg},
		{"", 0, 9, "", 0, api.ErrShort},
		{"02 61 62", 3, 9, "", 0, api.ErrShort},
		{"82", 0, 0, "", 0, api.ErrShort},
		{times(9, "ff") + "02", 0, 0, "", 0, api.ErrWide},
		{"82 00 61 62", 0, 0, "", 0, api.ErrForm},

		{"02 61 62", 0, 1, "", 0, api.ErrLong},
		{"01 61", 0, 0, "", 0, api.ErrLong},
		{"01 61", 0, -1, "", 0, api.ErrLong},
		{"01 61", 0, math.MinInt, "", 0, api.ErrLong},
		{"05 61", 0, 4, "", 0, api.ErrLong}, // too long, and not there whole
		{times(9, "ff") + "01", 0, math.MaxInt, "", 0, api.ErrLong},
		{times(9, "80") + "01", 0, math.MaxInt, "", 0, api.ErrLong},

		{"01", 0, 1, "", 0, api.ErrShort},
		{"02 61", 0, 2, "", 0, api.ErrShort},
		{"09 02 61", 1, 9, "", 0, api.ErrShort},
		{times(8, "ff") + "7f 61", 0, math.MaxInt, "", 0, api.ErrShort},
	} {
		s, next, e := num.GetText(raw(t, x.b), x.at, x.most)
		if !bytes.Equal(s, raw(t, x.s)) || next != x.next || e != x.e {
			t.Errorf("GetText(%s, %d, %d) = % x, %d, %d, want %s, %d, %d", x.b, x.at, x.most, s, next, e, x.s, x.next, x.e)
		}
	}
}

// TestGetLooksNoFurther: what is ahead of the place and behind the number is not asked about.
func TestGetLooksNoFurther(t *testing.T) {
	ahead := raw(t, "80 ff 00")
	for _, b := range scraps() {
		u, next, e := num.Get(b, 0)
		moved, movedNext, movedE := num.Get(slices.Concat(ahead, b), len(ahead))
		if e == api.OK {
			movedNext -= len(ahead)
		}
		if moved != u || movedNext != next || movedE != e {
			t.Fatalf("Get(% x) is %d, %d, %d, behind other bytes %d, %d, %d", b, u, next, e, moved, movedNext, movedE)
		}
		if e == api.OK {
			if cut, _, e := num.Get(b[:next], 0); cut != u || e != api.OK {
				t.Fatalf("Get(% x) is %d, without what is behind it %d, %d", b, u, cut, e)
			}
		}
	}
}

// P1.2

func TestNumbersThereAndBack(t *testing.T) {
	for _, u := range chance(5000) {
		b := num.Put(u)
		if got, next, e := num.Get(b, 0); got != u || next != len(b) || e != api.OK {
			t.Errorf("Get(Put(%d)) = %d, %d, %d", u, got, next, e)
		}
		v := int64(u)
		b = num.PutS(v)
		if got, next, e := num.GetS(b, 0); got != v || next != len(b) || e != api.OK {
			t.Errorf("GetS(PutS(%d)) = %d, %d, %d", v, got, next, e)
		}
		for cut := range b {
			if _, _, e := num.Get(b[:cut], 0); e != api.ErrShort {
				t.Errorf("% x, cut at %d: %d", b, cut, e)
			}
		}
	}
}

func TestTextsThereAndBack(t *testing.T) {
	for n := range 300 {
		s := make([]byte, n)
		for i := range s {
			s[i] = byte(i*7 + n)
		}
		b := append(num.PutText(s), 1, 2, 3)
		if got, next, e := num.GetText(b, 0, n); !bytes.Equal(got, s) || next != len(b)-3 || e != api.OK {
			t.Errorf("GetText(PutText(%d bytes)) = % x, %d, %d", n, got, next, e)
		}
		if n > 0 {
			if _, _, e := num.GetText(b, 0, n-1); e != api.ErrLong {
				t.Errorf("a text of %d bytes, at most %d: %d", n, n-1, e)
			}
			if _, _, e := num.GetText(b[:len(b)-4], 0, n); e != api.ErrShort {
				t.Errorf("a text of %d bytes, its last one gone: %d", n, e)
			}
		}
	}
}

func TestOneFormAlone(t *testing.T) {
	good := 0
	for _, b := range scraps() {
		if u, next, e := num.Get(b, 0); e == api.OK {
			good++
			if !bytes.Equal(num.Put(u), b[:next]) {
				t.Fatalf("% x is got as %d, which is put as % x", b[:next], u, num.Put(u))
			}
		}
		if v, next, e := num.GetS(b, 0); e == api.OK && !bytes.Equal(num.PutS(v), b[:next]) {
			t.Fatalf("% x is got as %d, which is put as % x", b[:next], v, num.PutS(v))
		}
		if s, next, e := num.GetText(b, 0, 20); e == api.OK && !bytes.Equal(num.PutText(s), b[:next]) {
			t.Fatalf("% x is got as % x, which is put as % x", b[:next], s, num.PutText(s))
		}
	}
	if good < 1000 {
		t.Errorf("only %d of the bytes are numbers", good)
	}
}

// P1.3

func TestBig(t *testing.T) {
	for _, x := range []struct {
		v    int64
		want [8]byte
	}{
		{math.MinInt64, [8]byte{}},
		{-1, [8]byte{0x7f, 0xff, 0xff, 0xff, 0xff, 0xff, 0xff, 0xff}},
		{0, [8]byte{0x80}},
		{1, [8]byte{0x80, 0, 0, 0, 0, 0, 0, 1}},
		{0x0102030405060708, [8]byte{0x81, 2, 3, 4, 5, 6, 7, 8}},
		{math.MaxInt64, [8]byte{0xff, 0xff, 0xff, 0xff, 0xff, 0xff, 0xff, 0xff}},
	} {
		if got := num.Big(x.v); got != x.want {
			t.Errorf("Big(%d) = % x, want % x", x.v, got, x.want)
		}
		if got := num.UnBig(x.want); got != x.v {
			t.Errorf("UnBig(% x) = %d, want %d", x.want, got, x.v)
		}
	}
}

func TestBigIsOneToOne(t *testing.T) {
	for _, u := range chance(5000) {
		for _, v := range []int64{int64(u), -int64(u)} {
			if got := num.UnBig(num.Big(v)); got != v {
				t.Errorf("UnBig(Big(%d)) = %d", v, got)
			}
		}
		var b [8]byte
		for i := range b {
			b[i] = byte(u >> (8 * i))
		}
		if got := num.Big(num.UnBig(b)); got != b {
			t.Errorf("Big(UnBig(% x)) = % x", b, got)
		}
	}
}

func TestBigKeepsTheOrder(t *testing.T) {
	var all []int64
	for _, u := range chance(5000) {
		all = append(all, int64(u), -int64(u))
	}
	slices.Sort(all)
	all = slices.Compact(all)
	for i := 1; i < len(all); i++ {
		a, b := num.Big(all[i-1]), num.Big(all[i])
		if bytes.Compare(a[:], b[:]) >= 0 {
			t.Fatalf("%d is below %d, but % x not ahead of % x", all[i-1], all[i], a, b)
		}
	}
}

// P1.4

func TestArgumentsStayAsTheyAre(t *testing.T) {
	for _, b := range scraps() {
		// Room behind the length, so that an append to an argument is seen as well.
		whole := append(bytes.Clone(b), 9, 9, 9, 9, 9, 9, 9, 9, 9, 9, 9, 9)
		was := bytes.Clone(whole)
		given := whole[:len(b)]
		num.Get(given, 0)
		num.GetS(given, 0)
		num.GetText(given, 0, 20)
		num.PutText(given)
		if !bytes.Equal(whole, was) {
			t.Fatalf("% x has become % x", was, whole)
		}
	}
}

// overwrite writes over a list and over the room behind its length.
func overwrite(b []byte) {
	b = b[:cap(b)]
	for i := range b {
		b[i] = 0xee
	}
}

func TestAnswersAreNewMemory(t *testing.T) {
	given := make([]byte, 40, 80)
	copy(given, num.PutText([]byte("some text")))
	was := bytes.Clone(given)
	again := func() [][]byte {
		text, _, e := num.GetText(given, 0, 40)
		if e != api.OK {
			t.Fatal(e)
		}
		none, _, e := num.GetText([]byte{0}, 0, 0)
		if e != api.OK {
			t.Fatal(e)
		}
		return [][]byte{text, none, num.PutText(given), num.Put(0), num.Put(300), num.PutS(-3), num.PutText(nil)}
	}
	first, second := again(), again()
	kept := again()
	for _, b := range first {
		overwrite(b)
	}
	if !bytes.Equal(given, was) || !bytes.Equal(given[:cap(given)][40:], make([]byte, 40)) {
		t.Errorf("an answer shares an argument's memory")
	}
	overwrite(given)
	for i := range second {
		if !bytes.Equal(second[i], kept[i]) {
			t.Errorf("answer %d has changed: % x", i, second[i])
		}
	}
	if string(second[0]) != "some text" || !bytes.Equal(num.Put(300), []byte{0xac, 2}) {
		t.Errorf("an answer shares its memory with another")
	}
}
