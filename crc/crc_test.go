package crc_test

import (
	"bytes"
	"hash/crc32"
	"math/rand/v2"
	"testing"

	"skein/crc"
)

// texts: bytes of all lengths up to n, the same ones at every run.
func texts(n int) [][]byte {
	r := rand.New(rand.NewPCG(1, 2))
	out := [][]byte{nil}
	for k := range n + 1 {
		b := make([]byte, k)
		for i := range b {
			b[i] = byte(r.Uint32())
		}
		out = append(out, b, make([]byte, k), bytes.Repeat([]byte{0xff}, k))
	}
	return out
}

// P2.1

func TestSum(t *testing.T) {
	for _, x := range []struct {
		parts []string
		want  uint32
	}{
		{nil, 0},
		{[]string{""}, 0},
		{[]string{"", "", ""}, 0},
		{[]string{"\x00"}, 0xD202EF8D},
		{[]string{"\xff"}, 0xFF000000},
		{[]string{"a"}, 0xE8B7BE43},
		{[]string{"\x00\x00\x00\x00"}, 0x2144DF1C},
		{[]string{"123456789"}, 0xCBF43926},
		{[]string{"1234", "56789"}, 0xCBF43926},
		{[]string{"", "1234", "", "5", "6789", ""}, 0xCBF43926},
	} {
		var parts [][]byte
		for _, p := range x.parts {
			parts = append(parts, []byte(p))
		}
		if got := crc.Sum(parts...); got != x.want {
			t.Errorf("Sum(%q) = %08x, want %08x", x.parts, got, x.want)
		}
	}
	if crc.Sum(nil) != 0 || crc.Sum(nil, nil) != 0 {
		t.Error("the sum of parts that are nil is not 0")
	}
}

func TestSumOfAllBytes(t *testing.T) {
	for a := range 256 {
		b := []byte{byte(a), 0x31}
		if got, want := crc.Sum(b[:1]), crc32.ChecksumIEEE(b[:1]); got != want {
			t.Errorf("Sum(%02x) = %08x, want %08x", a, got, want)
		}
		if got, want := crc.Sum(b), crc32.ChecksumIEEE(b); got != want {
			t.Errorf("Sum(% x) = %08x, want %08x", b, got, want)
		}
	}
	for _, b := range texts(600) {
		if got, want := crc.Sum(b), crc32.ChecksumIEEE(b); got != want {
			t.Errorf("Sum(%d bytes) = %08x, want %08x", len(b), got, want)
		}
	}
}

func TestPartsMayBeCutAnywhere(t *testing.T) {
	for _, b := range texts(40) {
		whole := crc.Sum(b)
		for i := range len(b) + 1 {
			for j := i; j <= len(b); j++ {
				if got := crc.Sum(b[:i], b[i:j], b[j:]); got != whole {
					t.Fatalf("% x, cut at %d and %d: %08x, want %08x", b, i, j, got, whole)
				}
			}
		}
	}
}

func TestSeal(t *testing.T) {
	for _, x := range []struct{ b, want string }{
		{"", "\x00\x00\x00\x00"},
		{"123456789", "\x26\x39\xf4\xcb123456789"},
		{"a", "\x43\xbe\xb7\xe8a"},
		{"\xff", "\x00\x00\x00\xff\xff"},
	} {
		if got := crc.Seal([]byte(x.b)); string(got) != x.want {
			t.Errorf("Seal(%q) = %q, want %q", x.b, got, x.want)
		}
	}
	if got := crc.Seal(nil); !bytes.Equal(got, make([]byte, 4)) {
		t.Errorf("Seal(nil) = % x", got)
	}
}

func TestOpen(t *testing.T) {
	for _, x := range []struct {
		b, want string
		ok      bool
	}{
		{"\x00\x00\x00\x00", "", true},
		{"\x26\x39\xf4\xcb123456789", "123456789", true},
		{"\x00\x00\x00\xff\xff", "\xff", true},

		{"", "", false},
		{"\x00", "", false},
		{"\x00\x00", "", false},
		{"\x00\x00\x00", "", false},
		{"\x01\x00\x00\x00", "", false},
		{"\x00\x00\x00\x01", "", false},
		{"\x00\x00\x00\x00\x00", "", false},
		{"\xcb\xf4\x39\x26123456789", "", false}, // the highest byte first
		{"\x26\x39\xf4\xcb12345678", "", false},
		{"\x26\x39\xf4\xcb1234567890", "", false},
		{"123456789\x26\x39\xf4\xcb", "", false},
	} {
		got, ok := crc.Open([]byte(x.b))
		if string(got) != x.want || ok != x.ok {
			t.Errorf("Open(%q) = %q, %v, want %q, %v", x.b, got, ok, x.want, x.ok)
		}
	}
	if got, ok := crc.Open(nil); len(got) != 0 || ok {
		t.Errorf("Open(nil) = % x, %v", got, ok)
	}
}

// P2.2

func TestWhatIsSealedIsOpened(t *testing.T) {
	for _, b := range texts(600) {
		if got, ok := crc.Open(crc.Seal(b)); !ok || !bytes.Equal(got, b) {
			t.Errorf("Open(Seal(% x)) = % x, %v", b, got, ok)
		}
	}
}

// turn turns those bits of b, from bit first on, that pattern has.
func turn(b []byte, first int, pattern uint32) {
	for k := range 32 {
		if pattern>>k&1 == 1 {
			b[(first+k)/8] ^= 1 << ((first + k) % 8)
		}
	}
}

// patterns: runs of n bits of which the first and the last one are turned.
func patterns(r *rand.Rand, n int) []uint32 {
	ends := uint32(1) | uint32(1)<<(n-1)
	within := uint32(1)<<(n-1) | (uint32(1)<<(n-1) - 1)
	return []uint32{ends, within, ends | r.Uint32()&within, ends | r.Uint32()&within}
}

func TestTurnedRunsAreNotOpened(t *testing.T) {
	r := rand.New(rand.NewPCG(5, 6))
	for _, b := range [][]byte{nil, {0}, []byte("abc"), []byte("123456789"), make([]byte, 20)} {
		sealed := crc.Seal(b)
		for _, part := range [][2]int{{0, 32}, {32, 8 * len(sealed)}} {
			for n := 1; n <= 32; n++ {
				for first := part[0]; first+n <= part[1]; first++ {
					for _, pattern := range patterns(r, n) {
						turned := bytes.Clone(sealed)
						turn(turned, first, pattern)
						if got, ok := crc.Open(turned); ok || len(got) != 0 {
							t.Fatalf("% x, sealed, with bits %08x turned from %d on: % x, %v", b, pattern, first, got, ok)
						}
					}
				}
			}
		}
	}
}

// P2.3

func TestSumOfThree(t *testing.T) {
	r := rand.New(rand.NewPCG(7, 8))
	for n := range 200 {
		var three [3][]byte
		all := make([]byte, n)
		for i := range three {
			three[i] = make([]byte, n)
			for k := range all {
				three[i][k] = byte(r.Uint32())
				all[k] ^= three[i][k]
			}
		}
		want := crc.Sum(three[0]) ^ crc.Sum(three[1]) ^ crc.Sum(three[2])
		if got := crc.Sum(all); got != want {
			t.Errorf("three texts of %d bytes: %08x, want %08x", n, got, want)
		}
	}
}

// P2.4

// overwrite writes over a list and over the room behind its length.
func overwrite(b []byte) {
	b = b[:cap(b)]
	for i := range b {
		b[i] = 0xee
	}
}

func TestArgumentsStayAsTheyAre(t *testing.T) {
	for _, b := range texts(40) {
		for _, text := range [][]byte{b, crc.Seal(b)} {
			// Room behind the length, so that an append to an argument is seen as well.
			whole := append(bytes.Clone(text), 9, 9, 9, 9, 9, 9, 9, 9, 9, 9, 9, 9)
			was := bytes.Clone(whole)
			given := whole[:len(text)]
			parts := [][]byte{given, nil, given}
			crc.Sum(parts...)
			crc.Seal(given)
			crc.Open(given)
			if !bytes.Equal(whole, was) {
				t.Fatalf("% x has become % x", was, whole)
			}
			if !bytes.Equal(parts[0], text) || parts[1] != nil || !bytes.Equal(parts[2], text) {
				t.Fatalf("the list of parts has become %v", parts)
			}
		}
	}
}

func TestAnswersAreNewMemory(t *testing.T) {
	for _, b := range texts(40) {
		sealed := crc.Seal(b)
		given := append(make([]byte, 0, len(sealed)+8), sealed...)
		opened, ok := crc.Open(given)
		other, _ := crc.Open(given)
		if !ok {
			t.Fatalf("% x isn't opened", given)
		}
		overwrite(opened)
		if !bytes.Equal(given, sealed) || !bytes.Equal(given[:cap(given)][len(given):], make([]byte, cap(given)-len(given))) {
			t.Fatalf("what is opened shares its bytes with what was sealed")
		}
		overwrite(given)
		if !bytes.Equal(other, b) {
			t.Fatalf("what was opened has changed: % x, want % x", other, b)
		}

		mine := append(make([]byte, 0, len(b)+8), b...)
		one, two := crc.Seal(mine), crc.Seal(mine)
		overwrite(one)
		if !bytes.Equal(mine, b) {
			t.Fatalf("what is sealed shares its bytes with what was handed in")
		}
		overwrite(mine)
		if !bytes.Equal(two, sealed) {
			t.Fatalf("what was sealed has changed: % x, want % x", two, sealed)
		}
	}
}
