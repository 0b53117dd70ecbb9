package keys_test

import (
	"bytes"
	"cmp"
	"encoding/hex"
	"math"
	"math/rand/v2"
	"reflect"
	"slices"
	"strings"
	"testing"

	"skein/api"
	"skein/keys"
	"skein/num"
)

// raw: the bytes that a text of two digits each, apart by spaces, writes.
func raw(t *testing.T, s string) []byte {
	t.Helper()
	b, err := hex.DecodeString(strings.ReplaceAll(s, " ", ""))
	if err != nil {
		t.Fatal(err)
	}
	return b
}

// times: the same byte n times, as raw reads it.
func times(n int, b string) string { return strings.Repeat(b+" ", n) }

const wide = "ff ff ff ff ff ff ff ff ff 02"

var less = math.Copysign(0, -1) // nought with a minus sign

func vertex(id int) api.Ref { return api.Ref{Id: id} }
func edge(id int) api.Ref   { return api.Ref{Edge: true, Id: id} }

func wrongIds() []int {
	return []int{0, -1, api.MaxId + 1, 1 << 32, 1<<32 + 1, math.MaxInt, math.MinInt}
}

func rightNames() []string {
	return []string{"a", "b", "z", "ab", "aa", "zz", "name", "abcdefghijklmnop", "zzzzzzzzzzzzzzzz"}
}

func wrongNames() []string {
	return []string{"", "A", "aB", "a b", "a1", "`", "{", "a\x00", "\x00", "ä", "a\xff", "abcdefghijklmnopq", strings.Repeat("x", 300)}
}

// refs: elements of all sizes of ids, by their order.
func refs() []api.Ref {
	var out []api.Ref
	ids := []int{1, 2, 7, 97, 255, 256, 257, 65535, 65536, 1 << 24, 1<<24 + 1, api.MaxId - 1, api.MaxId}
	for _, id := range ids {
		out = append(out, vertex(id))
	}
	for _, id := range ids {
		out = append(out, edge(id))
	}
	return out
}

// P4.1

func TestName(t *testing.T) {
	for _, s := range rightNames() {
		if !keys.Name(s) {
			t.Errorf("Name(%q) = false", s)
		}
	}
	for _, s := range wrongNames() {
		if keys.Name(s) {
			t.Errorf("Name(%q) = true", s)
		}
	}
}

func rightValues() []api.Value {
	return []api.Value{
		{Kind: api.VInt},
		{Kind: api.VInt, Int: 5},
		{Kind: api.VInt, Int: math.MinInt64},
		{Kind: api.VInt, Int: math.MaxInt64, Text: []byte{}},
		{Kind: api.VInt, C: complex(less, less)},
		{Kind: api.VGauss},
		{Kind: api.VGauss, C: 3 + 1i},
		{Kind: api.VGauss, C: complex(api.MaxPart, -api.MaxPart)},
		{Kind: api.VGauss, C: complex(less, 1), Text: []byte{}},
		{Kind: api.VText},
		{Kind: api.VText, Text: []byte{}},
		{Kind: api.VText, Text: []byte{0}},
		{Kind: api.VText, Text: []byte("some text")},
		{Kind: api.VText, Text: bytes.Repeat([]byte{0xff}, api.MaxText), C: complex(0, less)},
	}
}

func wrongValues() []api.Value {
	return []api.Value{
		{},
		{Int: 5},
		{Kind: 4},
		{Kind: -1},
		{Kind: 257, Int: 5},
		{Kind: math.MinInt},
		{Kind: api.VInt, C: 1},
		{Kind: api.VInt, C: 1i},
		{Kind: api.VInt, C: complex(math.NaN(), 0)},
		{Kind: api.VInt, Text: []byte{0}},
		{Kind: api.VGauss, C: 0.5},
		{Kind: api.VGauss, C: complex(0, api.MaxPart+1)},
		{Kind: api.VGauss, C: complex(math.Inf(-1), 0)},
		{Kind: api.VGauss, C: 1, Int: 1},
		{Kind: api.VGauss, C: 1, Text: []byte("a")},
		{Kind: api.VText, Text: make([]byte, api.MaxText+1)},
		{Kind: api.VText, Int: -1},
		{Kind: api.VText, C: 1},
		{Kind: api.VText, C: complex(0, math.NaN())},
	}
}

func TestRight(t *testing.T) {
	for _, v := range rightValues() {
		if !keys.Right(v) {
			t.Errorf("Right(%v) = false", v)
		}
	}
	for _, v := range wrongValues() {
		if keys.Right(v) {
			t.Errorf("Right(%v) = true", v)
		}
	}
}

func TestElem(t *testing.T) {
	for _, x := range []struct {
		r    api.Ref
		want string
	}{
		{vertex(7), "01 00 00 00 07"},
		{edge(7), "02 00 00 00 07"},
		{vertex(1), "01 00 00 00 01"},
		{vertex(0x01020304), "01 01 02 03 04"},
		{edge(api.MaxId), "02 7f ff ff ff"},
	} {
		if got, e := keys.Elem(x.r); !bytes.Equal(got, raw(t, x.want)) || e != api.OK {
			t.Errorf("Elem(%v) = % x, %d, want %s", x.r, got, e, x.want)
		}
	}
	for _, id := range wrongIds() {
		for _, r := range []api.Ref{vertex(id), edge(id)} {
			if got, e := keys.Elem(r); got != nil || e != api.ErrArg {
				t.Errorf("Elem(%v) = % x, %d", r, got, e)
			}
		}
	}
}

func TestProp(t *testing.T) {
	for _, x := range []struct {
		r    api.Ref
		name string
		want string
	}{
		{edge(1), "ab", "03 01 00 00 00 01 61 62"},
		{vertex(1), "ab", "03 00 00 00 00 01 61 62"},
		{vertex(0x01020304), "z", "03 00 01 02 03 04 7a"},
		{edge(api.MaxId), "aaaaaaaaaaaaaaaa", "03 01 7f ff ff ff " + times(16, "61")},
	} {
		if got, e := keys.Prop(x.r, x.name); !bytes.Equal(got, raw(t, x.want)) || e != api.OK {
			t.Errorf("Prop(%v, %q) = % x, %d, want %s", x.r, x.name, got, e, x.want)
		}
	}
	for _, id := range wrongIds() {
		for _, name := range []string{"a", ""} {
			if got, e := keys.Prop(edge(id), name); got != nil || e != api.ErrArg {
				t.Errorf("Prop(edge %d, %q) = % x, %d", id, name, got, e)
			}
		}
	}
	for _, name := range wrongNames() {
		if got, e := keys.Prop(vertex(1), name); got != nil || e != api.ErrValue {
			t.Errorf("Prop(%q) = % x, %d", name, got, e)
		}
	}
}

func TestParse(t *testing.T) {
	for _, x := range []struct {
		key  string
		r    api.Ref
		name string
		ok   bool
	}{
		{"01 00 00 00 07", vertex(7), "", true},
		{"02 00 00 00 07", edge(7), "", true},
		{"01 7f ff ff ff", vertex(api.MaxId), "", true},
		{"03 01 00 00 00 01 61 62", edge(1), "ab", true},
		{"03 00 01 02 03 04 7a", vertex(0x01020304), "z", true},
		{"03 00 00 00 00 01 " + times(16, "61"), vertex(1), strings.Repeat("a", 16), true},

		{"", api.Ref{}, "", false},
		{"01", api.Ref{}, "", false},
		{"01 00 00 00", api.Ref{}, "", false},
		{"01 00 00 00 07 00", api.Ref{}, "", false},
		{"02 00 00 00 07 61", api.Ref{}, "", false},
		{"00 00 00 00 07", api.Ref{}, "", false},
		{"03 00 00 00 07", api.Ref{}, "", false},
		{"04 00 00 00 07", api.Ref{}, "", false},
		{"01 00 00 00 00", api.Ref{}, "", false},
		{"02 00 00 00 00", api.Ref{}, "", false},
		{"01 80 00 00 00", api.Ref{}, "", false},
		{"02 ff ff ff ff", api.Ref{}, "", false},
		{"01 80 00 00 01", api.Ref{}, "", false},
		{"03", api.Ref{}, "", false},
		{"03 00", api.Ref{}, "", false},
		{"03 00 00 00 00 01", api.Ref{}, "", false},
		{"03 02 00 00 00 01 61", api.Ref{}, "", false},
		{"03 ff 00 00 00 01 61", api.Ref{}, "", false},
		{"01 00 00 00 00 01 61", api.Ref{}, "", false},
		{"04 00 00 00 00 01 61", api.Ref{}, "", false},
		{"03 00 00 00 00 00 61", api.Ref{}, "", false},
		{"03 01 80 00 00 00 61", api.Ref{}, "", false},
		{"03 00 00 00 00 01 41", api.Ref{}, "", false},
		{"03 00 00 00 00 01 61 00", api.Ref{}, "", false},
		{"03 00 00 00 00 01 61 7b", api.Ref{}, "", false},
		{"03 00 00 00 00 01 60", api.Ref{}, "", false},
		{"03 00 00 00 00 01 " + times(17, "61"), api.Ref{}, "", false},
	} {
		if r, name, ok := keys.Parse(raw(t, x.key)); r != x.r || name != x.name || ok != x.ok {
			t.Errorf("Parse(%s) = %v, %q, %v, want %v, %q, %v", x.key, r, name, ok, x.r, x.name, x.ok)
		}
	}
}

func TestVersion(t *testing.T) {
	for _, x := range []struct {
		key  string
		t    int64
		want string
	}{
		{"61", 5, "61 00 00 7f ff ff ff ff ff ff fb"},
		{"61", 0, "61 00 00 80 00 00 00 00 00 00 00"},
		{"", 1, "00 00 7f ff ff ff ff ff ff ff"},
		{"00", 1, "00 ff 00 00 7f ff ff ff ff ff ff ff"},
		{"00 00", 1, "00 ff 00 ff 00 00 7f ff ff ff ff ff ff ff"},
		{"61 00 ff 62", 1, "61 00 ff ff 62 00 00 7f ff ff ff ff ff ff ff"},
		{"01 00 00 00 07", 2, "01 00 ff 00 ff 00 ff 07 00 00 7f ff ff ff ff ff ff fe"},
		{"ff", api.MaxTime, "ff 00 00 7f ff ff 00 00 00 00 00"},
	} {
		if got, e := keys.Version(raw(t, x.key), x.t); !bytes.Equal(got, raw(t, x.want)) || e != api.OK {
			t.Errorf("Version(%s, %d) = % x, %d, want %s", x.key, x.t, got, e, x.want)
		}
	}
	for _, when := range []int64{-1, api.MaxTime + 1, math.MinInt64, math.MaxInt64} {
		if got, e := keys.Version([]byte{1}, when); got != nil || e != api.ErrArg {
			t.Errorf("Version at %d = % x, %d", when, got, e)
		}
	}
}

func TestSplit(t *testing.T) {
	const one = "7f ff ff ff ff ff ff ff" // of the time 1
	for _, x := range []struct {
		vkey string
		key  string
		t    int64
		e    api.Errno
	}{
		{"61 00 00 7f ff ff ff ff ff ff fb", "61", 5, api.OK},
		{"00 00 " + one, "", 1, api.OK},
		{"00 00 80 00 00 00 00 00 00 00", "", 0, api.OK},
		{"00 ff 00 00 " + one, "00", 1, api.OK},
		{"00 ff ff 00 ff 00 00 " + one, "00 ff 00", 1, api.OK},
		{"ff 00 00 7f ff ff 00 00 00 00 00", "ff", api.MaxTime, api.OK},

		{"", "", 0, api.ErrKey},
		{"00", "", 0, api.ErrKey},
		{"00 00", "", 0, api.ErrKey},
		{"61", "", 0, api.ErrKey},
		{"00 00 7f ff ff ff ff ff ff", "", 0, api.ErrKey},
		{"00 00 " + one + "00", "", 0, api.ErrKey},
		{"61 00 00 " + one + one, "", 0, api.ErrKey},
		{"61 62 63 64 65 66 67 68 69 6a 6b 6c", "", 0, api.ErrKey},
		{"61 62 00 01 " + one, "", 0, api.ErrKey},
		{"61 62 00 fe " + one, "", 0, api.ErrKey},
		{"61 00 ff " + one, "", 0, api.ErrKey},
		{"61 00 01 00 00 " + one, "", 0, api.ErrKey},
		{"61 01 00 " + one, "", 0, api.ErrKey},
		{"00 " + one, "", 0, api.ErrKey},
		{"61 62 63 00 ff 00 00 00 00 00 00 00", "", 0, api.ErrKey},
		{"61 00 00 80 00 00 00 00 00 00 01", "", 0, api.ErrKey}, // time -1
		{"61 00 00 7f ff fe ff ff ff ff ff", "", 0, api.ErrKey}, // time MaxTime + 1
		{"61 00 00 00 00 00 00 00 00 00 00", "", 0, api.ErrKey},
		{"61 00 00 00 00 00 00 00 00 00 01", "", 0, api.ErrKey},
		{"61 00 00 ff ff ff ff ff ff ff ff", "", 0, api.ErrKey},
	} {
		key, when, e := keys.Split(raw(t, x.vkey))
		if !bytes.Equal(key, raw(t, x.key)) || when != x.t || e != x.e || e != api.OK && key != nil {
			t.Errorf("Split(%s) = % x, %d, %d, want %s, %d, %d", x.vkey, key, when, e, x.key, x.t, x.e)
		}
	}
}

func TestPutValue(t *testing.T) {
	for _, x := range []struct {
		v    api.Value
		want string
	}{
		{api.Value{Kind: api.VInt, Int: -3}, "01 05"},
		{api.Value{Kind: api.VInt, C: complex(less, less)}, "01 00"},
		{api.Value{Kind: api.VGauss, C: 3 + 1i}, "02 06 02"},
		{api.Value{Kind: api.VGauss, C: complex(less, 1)}, "02 00 02"},
		{api.Value{Kind: api.VText, Text: []byte("ab")}, "03 02 61 62"},
		{api.Value{Kind: api.VText}, "03 00"},
		{api.Value{Kind: api.VText, Text: make([]byte, 60)}, "03 3c " + times(60, "00")},
	} {
		if got, e := keys.PutValue(x.v); !bytes.Equal(got, raw(t, x.want)) || e != api.OK {
			t.Errorf("PutValue(%v) = % x, %d, want %s", x.v, got, e, x.want)
		}
	}
	for _, v := range wrongValues() {
		if got, e := keys.PutValue(v); got != nil || e != api.ErrValue {
			t.Errorf("PutValue(%v) = % x, %d", v, got, e)
		}
	}
}

func TestGetValue(t *testing.T) {
	for _, x := range []struct {
		b string
		v api.Value
		e api.Errno
	}{
		{"01 05", api.Value{Kind: api.VInt, Int: -3}, api.OK},
		{"02 06 02", api.Value{Kind: api.VGauss, C: 3 + 1i}, api.OK},
		{"03 02 61 62", api.Value{Kind: api.VText, Text: []byte("ab")}, api.OK},
		{"03 3c " + times(60, "07"), api.Value{Kind: api.VText, Text: bytes.Repeat([]byte{7}, 60)}, api.OK},

		{"", api.Value{}, api.ErrShort},
		{"00", api.Value{}, api.ErrForm},
		{"04", api.Value{}, api.ErrForm},
		{"04 05", api.Value{}, api.ErrForm},
		{"ff 05 05", api.Value{}, api.ErrForm},
		{"01", api.Value{}, api.ErrShort},
		{"01 " + wide, api.Value{}, api.ErrWide},
		{"01 85 00", api.Value{}, api.ErrForm},
		{"01 05 05", api.Value{}, api.ErrTrail},
		{"02", api.Value{}, api.ErrShort},
		{"02 06", api.Value{}, api.ErrShort},
		{"02 86 00 02", api.Value{}, api.ErrForm},
		{"02 06 " + wide, api.Value{}, api.ErrWide},
		{"02 06 82 80 80 80 80 80 80 04", api.Value{}, api.ErrPart},
		{"02 06 82 80 80 80 80 80 80 04 00", api.Value{}, api.ErrPart}, // looked for ahead of what is left
		{"02 06 02 00", api.Value{}, api.ErrTrail},
		{"03", api.Value{}, api.ErrShort},
		{"03 02 61", api.Value{}, api.ErrShort},
		{"03 82 00 61 62", api.Value{}, api.ErrForm},
		{"03 3d " + times(61, "07"), api.Value{}, api.ErrLong},
		{"03 3d", api.Value{}, api.ErrLong},
		{"03 02 61 62 63", api.Value{}, api.ErrTrail},
		{"03 00 00", api.Value{}, api.ErrTrail},
	} {
		v, e := keys.GetValue(raw(t, x.b))
		if v.Kind != x.v.Kind || v.Int != x.v.Int || v.C != x.v.C || !bytes.Equal(v.Text, x.v.Text) || e != x.e {
			t.Errorf("GetValue(%s) = %v, %d, want %v, %d", x.b, v, e, x.v, x.e)
		}
		if e != api.OK && v.Text != nil {
			t.Errorf("GetValue(%s) has a text beside an error", x.b)
		}
	}
	if v, e := keys.GetValue([]byte{3, 0}); v.Kind != api.VText || len(v.Text) != 0 || e != api.OK {
		t.Errorf("a text of no bytes = %v, %d", v, e)
	}
}

func TestPutEnds(t *testing.T) {
	for _, x := range []struct {
		e    api.Edge
		want string
		err  api.Errno
	}{
		{api.Edge{Id: 1, U: 1, V: 2, W: 5}, "01 02 05", api.OK},
		{api.Edge{Id: -9, U: 300, V: 300}, "ac 02 ac 02 00", api.OK},
		{api.Edge{U: api.MaxId, V: 1, W: api.MaxWeight}, "ff ff ff ff 07 01 80 80 80 80 80 20", api.OK},

		{api.Edge{Id: 1, U: 0, V: 2, W: 5}, "", api.ErrArg},
		{api.Edge{Id: 1, U: 1, V: 0, W: 5}, "", api.ErrArg},
		{api.Edge{Id: 1, U: -1, V: 2, W: 5}, "", api.ErrArg},
		{api.Edge{Id: 1, U: 1, V: api.MaxId + 1, W: 5}, "", api.ErrArg},
		{api.Edge{Id: 1, U: math.MinInt, V: 2, W: -1}, "", api.ErrArg},
		{api.Edge{Id: 1, U: 1, V: 2, W: -1}, "", api.ErrWeight},
		{api.Edge{Id: 1, U: 1, V: 2, W: api.MaxWeight + 1}, "", api.ErrWeight},
		{api.Edge{Id: 1, U: 1, V: 2, W: math.MinInt64}, "", api.ErrWeight},
	} {
		got, e := keys.PutEnds(x.e)
		if !bytes.Equal(got, raw(t, x.want)) || e != x.err || e != api.OK && got != nil {
			t.Errorf("PutEnds(%v) = % x, %d, want %s, %d", x.e, got, e, x.want, x.err)
		}
	}
	for _, id := range wrongIds() {
		for _, e := range []api.Edge{{U: id, V: 1}, {U: 1, V: id}} {
			if got, err := keys.PutEnds(e); got != nil || err != api.ErrArg {
				t.Errorf("PutEnds(%v) = % x, %d", e, got, err)
			}
		}
	}
}

func TestGetEnds(t *testing.T) {
	const maxId, aboveIds = "ff ff ff ff 07", "80 80 80 80 08"
	const maxWeight, aboveWeights = "80 80 80 80 80 20", "81 80 80 80 80 20"
	const most = "ff ff ff ff ff ff ff ff ff 01"
	const low = "81 80 80 80 10" // 2 to the 32nd, and 1
	for _, x := range []struct {
		b    string
		want api.Edge
		e    api.Errno
	}{
		{"01 02 05", api.Edge{U: 1, V: 2, W: 5}, api.OK},
		{"ac 02 ac 02 00", api.Edge{U: 300, V: 300}, api.OK},
		{maxId + "01" + maxWeight, api.Edge{U: api.MaxId, V: 1, W: api.MaxWeight}, api.OK},

		{"", api.Edge{}, api.ErrShort},
		{"01", api.Edge{}, api.ErrShort},
		{"01 02", api.Edge{}, api.ErrShort},
		{"01 02 85", api.Edge{}, api.ErrShort},
		{"81 00 02 05", api.Edge{}, api.ErrForm},
		{"01 82 00 05", api.Edge{}, api.ErrForm},
		{"01 02 85 00", api.Edge{}, api.ErrForm},
		{wide + "02 05", api.Edge{}, api.ErrWide},
		{"01" + wide + "05", api.Edge{}, api.ErrWide},
		{"01 02" + wide, api.Edge{}, api.ErrWide},
		{"00 02 85 00", api.Edge{}, api.ErrForm}, // the numbers' own errors come first
		{"00 02", api.Edge{}, api.ErrShort},

		{"00 02 05", api.Edge{}, api.ErrArg},
		{"01 00 05", api.Edge{}, api.ErrArg},
		{aboveIds + "02 05", api.Edge{}, api.ErrArg},
		{"01" + aboveIds + "05", api.Edge{}, api.ErrArg},
		{low + "02 05", api.Edge{}, api.ErrArg},
		{"01" + low + "05", api.Edge{}, api.ErrArg},
		{most + "02 05", api.Edge{}, api.ErrArg},
		{"01" + most + "05", api.Edge{}, api.ErrArg},
		{"00 02" + aboveWeights, api.Edge{}, api.ErrArg},
		{aboveIds + "02" + aboveWeights, api.Edge{}, api.ErrArg},
		{"01 02" + aboveWeights, api.Edge{}, api.ErrWeight},
		{"01 02" + most, api.Edge{}, api.ErrWeight},
		{"01 02" + aboveWeights + "00", api.Edge{}, api.ErrWeight},
		{"00 02 05 00", api.Edge{}, api.ErrArg},
		{"01 02 05 00", api.Edge{}, api.ErrTrail},
	} {
		for _, id := range []int{1, 7, 0, -1, math.MaxInt} {
			want := x.want
			if x.e == api.OK {
				want.Id = id
			}
			if got, e := keys.GetEnds(id, raw(t, x.b)); got != want || e != x.e {
				t.Errorf("GetEnds(%d, %s) = %v, %d, want %v, %d", id, x.b, got, e, want, x.e)
			}
		}
	}
}

// P4.2

func TestKeysThereAndBack(t *testing.T) {
	for _, r := range refs() {
		key, e := keys.Elem(r)
		if e != api.OK {
			t.Fatalf("Elem(%v): %d", r, e)
		}
		if got, name, ok := keys.Parse(key); got != r || name != "" || !ok {
			t.Errorf("Parse(Elem(%v)) = %v, %q, %v", r, got, name, ok)
		}
		for _, name := range rightNames() {
			key, e := keys.Prop(r, name)
			if e != api.OK {
				t.Fatalf("Prop(%v, %q): %d", r, name, e)
			}
			if got, gotName, ok := keys.Parse(key); got != r || gotName != name || !ok {
				t.Errorf("Parse(Prop(%v, %q)) = %v, %q, %v", r, name, got, gotName, ok)
			}
		}
	}
}

// scraps: bytes of which many write something and many do not, the same ones at every run.
func scraps(n int) [][]byte {
	r := rand.New(rand.NewPCG(11, 12))
	often := []byte{0, 0, 0, 0xff, 1, 2, 3, 4, 0x61, 0x62, 0x7a, 0x80, 0x7f}
	out := [][]byte{nil}
	for range n {
		b := make([]byte, r.IntN(24))
		for i := range b {
			b[i] = often[r.IntN(len(often))]
			if r.IntN(9) == 0 {
				b[i] = byte(r.Uint32())
			}
		}
		switch r.IntN(3) {
		case 0:
			b = append(b, 0, 0, 0x7f, 0xff, 0xff, 0xff, byte(r.Uint32()), byte(r.Uint32()), byte(r.Uint32()), byte(r.Uint32()))
		case 1:
			b = append([]byte{3, byte(r.IntN(2)), 0, 0, 0, byte(r.Uint32())}, bytes.Repeat([]byte{byte('a' + r.IntN(27))}, r.IntN(18))...)
		}
		out = append(out, b)
	}
	return out
}

func TestEachKeyHasOneForm(t *testing.T) {
	good := 0
	for _, b := range scraps(30000) {
		r, name, ok := keys.Parse(b)
		if !ok {
			continue
		}
		good++
		again, e := keys.Elem(r)
		if name != "" {
			again, e = keys.Prop(r, name)
		}
		if !bytes.Equal(again, b) || e != api.OK {
			t.Fatalf("% x names %v, %q, whose key is % x, %d", b, r, name, again, e)
		}
	}
	if good < 1000 {
		t.Errorf("only %d of the bytes are keys", good)
	}
}

func TestVersionsThereAndBack(t *testing.T) {
	for _, key := range scraps(3000) {
		for _, when := range []int64{0, 1, 255, 256, 1 << 32, api.MaxTime} {
			vkey, e := keys.Version(key, when)
			if e != api.OK {
				t.Fatalf("Version(% x, %d): %d", key, when, e)
			}
			if got, at, e := keys.Split(vkey); !bytes.Equal(got, key) || at != when || e != api.OK {
				t.Fatalf("Split(Version(% x, %d)) = % x, %d, %d", key, when, got, at, e)
			}
		}
	}
}

func TestEachVersionHasOneForm(t *testing.T) {
	good := 0
	for _, b := range scraps(30000) {
		key, when, e := keys.Split(b)
		if e != api.OK {
			continue
		}
		good++
		if again, e := keys.Version(key, when); !bytes.Equal(again, b) || e != api.OK {
			t.Fatalf("% x is the version of % x at %d, which is % x, %d", b, key, when, again, e)
		}
	}
	if good < 500 {
		t.Errorf("only %d of the bytes are versions", good)
	}
}

func TestValuesThereAndBack(t *testing.T) {
	for _, v := range rightValues() {
		b, e := keys.PutValue(v)
		if e != api.OK {
			t.Fatalf("PutValue(%v): %d", v, e)
		}
		got, e := keys.GetValue(b)
		if got.Kind != v.Kind || got.Int != v.Int || got.C != v.C || !bytes.Equal(got.Text, v.Text) || e != api.OK {
			t.Errorf("GetValue(PutValue(%v)) = %v, %d", v, got, e)
		}
		if math.Signbit(real(got.C)) && real(got.C) == 0 || math.Signbit(imag(got.C)) && imag(got.C) == 0 {
			t.Errorf("GetValue(PutValue(%v)) has a nought with a minus sign", v)
		}
		for cut := range b {
			if _, e := keys.GetValue(b[:cut]); e != api.ErrShort {
				t.Errorf("% x, cut at %d: %d", b, cut, e)
			}
		}
		if _, e := keys.GetValue(append(b, 0)); e != api.ErrTrail {
			t.Errorf("% x and a byte: %d", b, e)
		}
	}
}

func TestEachValueAndEndsHaveOneForm(t *testing.T) {
	values, ends := 0, 0
	for _, b := range scraps(60000) {
		if len(b) > 4 {
			b = b[:4]
		}
		if v, e := keys.GetValue(b); e == api.OK {
			values++
			if again, e := keys.PutValue(v); !bytes.Equal(again, b) || e != api.OK {
				t.Fatalf("% x is got as %v, which is put as % x, %d", b, v, again, e)
			}
		}
		if edge, e := keys.GetEnds(1, b); e == api.OK {
			ends++
			if again, e := keys.PutEnds(edge); !bytes.Equal(again, b) || e != api.OK {
				t.Fatalf("% x is got as %v, which is put as % x, %d", b, edge, again, e)
			}
		}
	}
	if values < 500 || ends < 500 {
		t.Errorf("only %d of the bytes are values, %d ends", values, ends)
	}
}

func TestEndsThereAndBack(t *testing.T) {
	for _, u := range []int{1, 127, 128, api.MaxId} {
		for _, v := range []int{1, 2, 300, api.MaxId} {
			for _, w := range []int64{0, 1, 1 << 20, api.MaxWeight - 1, api.MaxWeight} {
				edge := api.Edge{Id: 9, U: u, V: v, W: w}
				b, e := keys.PutEnds(edge)
				if e != api.OK || !bytes.Equal(b, slices.Concat(num.Put(uint64(u)), num.Put(uint64(v)), num.Put(uint64(w)))) {
					t.Fatalf("PutEnds(%v) = % x, %d", edge, b, e)
				}
				if got, e := keys.GetEnds(9, b); got != edge || e != api.OK {
					t.Errorf("GetEnds(PutEnds(%v)) = %v, %d", edge, got, e)
				}
			}
		}
	}
}

// P4.3

func TestElementsKeysStandInOrder(t *testing.T) {
	all := refs()
	for i, a := range all {
		for j, b := range all {
			ka, _ := keys.Elem(a)
			kb, _ := keys.Elem(b)
			if bytes.Compare(ka, kb) != cmp.Compare(i, j) {
				t.Fatalf("% x and % x, of %v and %v", ka, kb, a, b)
			}
			pa, _ := keys.Prop(a, "zz")
			pb, _ := keys.Prop(b, "a")
			if i != j && bytes.Compare(pa, pb) != cmp.Compare(i, j) {
				t.Fatalf("% x and % x, of %v and %v", pa, pb, a, b)
			}
		}
	}
}

func TestPropertiesKeysStandInOrder(t *testing.T) {
	for _, r := range refs() {
		for _, a := range rightNames() {
			for _, b := range rightNames() {
				ka, _ := keys.Prop(r, a)
				kb, _ := keys.Prop(r, b)
				if bytes.Compare(ka, kb) != cmp.Compare(a, b) {
					t.Fatalf("%v: % x and % x, of %q and %q", r, ka, kb, a, b)
				}
			}
		}
	}
}

func TestVersionsStandInOrder(t *testing.T) {
	all := scraps(300)
	all = append(all, []byte{}, []byte{0}, []byte{0, 0}, []byte{0, 0xff}, []byte{0, 1}, []byte{1}, []byte{0xff}, []byte{1, 0, 0})
	whens := []int64{0, 1, 2, 255, 256, 1 << 33, api.MaxTime}
	for _, a := range all {
		for _, b := range all {
			for i, at := range whens {
				for j, bt := range whens {
					va, _ := keys.Version(a, at)
					vb, _ := keys.Version(b, bt)
					want := bytes.Compare(a, b)
					if want == 0 {
						want = cmp.Compare(j, i)
					}
					if bytes.Compare(va, vb) != want {
						t.Fatalf("versions of % x at %d and % x at %d: % x and % x", a, at, b, bt, va, vb)
					}
				}
			}
		}
	}
}

// P4.4

// roomy: the same bytes with room behind the length, and all of them.
func roomy(b []byte) ([]byte, []byte) {
	whole := append(bytes.Clone(b), bytes.Repeat([]byte{9}, 40)...)
	return whole[:len(b)], whole
}

func TestArgumentsStayAsTheyAre(t *testing.T) {
	for _, b := range scraps(3000) {
		given, whole := roomy(b)
		was := bytes.Clone(whole)
		keys.Parse(given)
		keys.Version(given, 5)
		keys.Split(given)
		keys.GetValue(given)
		keys.GetEnds(1, given)
		keys.Right(api.Value{Kind: api.VText, Text: given})
		keys.PutValue(api.Value{Kind: api.VText, Text: given})
		if !bytes.Equal(whole, was) {
			t.Fatalf("% x has become % x", was, whole)
		}
	}
}

// overwrite writes over a list and over the room behind its length.
func overwrite(b []byte) {
	b = b[:cap(b)]
	for i := range b {
		b[i] = 0xee
	}
}

func TestAnswersAreNewMemory(t *testing.T) {
	key := []byte{1, 0, 0, 0, 7}
	vkey := []byte{0x61, 0x62, 0, 0, 0x7f, 0xff, 0xff, 0xff, 0xff, 0xff, 0xff, 0xfb}
	value := []byte{3, 2, 0x61, 0x62}
	text := []byte("ab")
	all := func() [][]byte {
		var out [][]byte
		add := func(b []byte, e api.Errno) {
			if e != api.OK {
				t.Fatal(e)
			}
			out = append(out, b)
		}
		add(keys.Elem(vertex(7)))
		add(keys.Prop(edge(1), "ab"))
		add(keys.Version(key, 5))
		add(keys.Version(nil, 5))
		split, _, e := keys.Split(vkey)
		add(split, e)
		add(keys.PutValue(api.Value{Kind: api.VText, Text: text}))
		add(keys.PutValue(api.Value{Kind: api.VInt, Int: 5}))
		add(keys.PutValue(api.Value{Kind: api.VGauss, C: 5}))
		v, e := keys.GetValue(value)
		add(v.Text, e)
		add(keys.PutEnds(api.Edge{U: 1, V: 2, W: 5}))
		return out
	}
	first, second := all(), all()
	var kept [][]byte
	for _, b := range second {
		kept = append(kept, bytes.Clone(b))
	}
	for _, b := range first {
		overwrite(b)
	}
	if !reflect.DeepEqual(second, kept) || !reflect.DeepEqual(all(), kept) {
		t.Errorf("an answer shares its memory with another, or with an argument")
	}
	for _, b := range [][]byte{key, vkey, value, text} {
		overwrite(b)
	}
	if !reflect.DeepEqual(second, kept) {
		t.Errorf("an answer shares an argument's memory")
	}
}

func TestANameIsKeptBehindTheCall(t *testing.T) {
	key := []byte{3, 1, 0, 0, 0, 1, 0x61, 0x62}
	_, name, _ := keys.Parse(key)
	overwrite(key)
	if name != "ab" {
		t.Errorf("the name has become %q", name)
	}
}
