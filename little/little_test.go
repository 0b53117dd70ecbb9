package little_test

import (
	"bytes"
	"math"
	"testing"

	"skein/little"
)

func TestThereAndBack(t *testing.T) {
	for _, x := range []struct {
		n uint64
		b []byte
	}{
		{0, nil},
		{0, []byte{0}},
		{255, []byte{255}},
		{256, []byte{0, 1}},
		{0x0201, []byte{1, 2}},
		{0x04030201, []byte{1, 2, 3, 4}},
		{1 << 38, []byte{0, 0, 0, 0, 64, 0, 0, 0}},
		{math.MaxUint64, bytes.Repeat([]byte{255}, 8)},
		{7, []byte{7, 0, 0, 0, 0, 0, 0, 0, 0, 0}},
	} {
		b := bytes.Repeat([]byte{9}, len(x.b))
		little.Put(b, x.n)
		if !bytes.Equal(b, x.b) {
			t.Errorf("Put(%d) = % x, want % x", x.n, b, x.b)
		}
		if n := little.Get(x.b); n != x.n {
			t.Errorf("Get(% x) = %d, want %d", x.b, n, x.n)
		}
	}
}

func TestWhatDoesNotFit(t *testing.T) {
	b := make([]byte, 2)
	little.Put(b, 0x030201)
	if !bytes.Equal(b, []byte{1, 2}) {
		t.Errorf("Put = % x", b)
	}
	if n := little.Get([]byte{1, 0, 0, 0, 0, 0, 0, 0, 5}); n != 1 {
		t.Errorf("Get = %d", n)
	}
}
