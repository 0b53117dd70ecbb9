// Package num is layer 1: numbers and texts as bytes, in one form alone.
package num

import "skein/api"

const (
	more    = 128 // what every byte of a number but the last one has added
	bits    = 7   // bits of a number in a byte
	tenth   = 9   // place, from 0 on, of the last byte that 64 bits can need
	highest = 1   // the most that the tenth byte can bear
	half    = 1 << 63
)

// Put writes a number.
func Put(u uint64) []byte {
	var out []byte
next:
	if u >= more {
		out = append(out, byte(u)|more)
		u >>= bits
		goto next
	}
	return append(out, byte(u))
}

// Get reads a number.
func Get(b []byte, at int) (uint64, int, api.Errno) {
	if at < 0 || at > len(b) {
		return 0, 0, api.ErrArg
	}
	var u uint64
	i := 0
next:
	if i == len(b)-at {
		return 0, 0, api.ErrShort
	}
	c := b[at+i]
	if i == tenth && c > highest {
		return 0, 0, api.ErrWide
	}
	u |= uint64(c%more) << (bits * i)
	i++
	if c >= more {
		goto next
	}
	// A last byte of nought behind others adds nothing: the number has a shorter form.
	if c == 0 && i > 1 {
		return 0, 0, api.ErrForm
	}
	return u, at + i, api.OK
}

// PutS writes a number with a sign.
func PutS(v int64) []byte {
	if v < 0 {
		// -2v - 1 is 2(-v - 1) + 1; -v - 1 has room where -v may not.
		return Put(uint64(^v)<<1 | 1)
	}
	return Put(uint64(v) << 1)
}

// GetS reads a number with a sign.
func GetS(b []byte, at int) (int64, int, api.Errno) {
	u, next, e := Get(b, at)
	if e != api.OK {
		return 0, 0, e
	}
	v := int64(u >> 1)
	if u&1 == 1 {
		v = ^v
	}
	return v, next, api.OK
}

// PutText writes a text.
func PutText(s []byte) []byte {
	return append(Put(uint64(len(s))), s...)
}

// GetText reads a text.
func GetText(b []byte, at, most int) ([]byte, int, api.Errno) {
	n, from, e := Get(b, at)
	if e != api.OK {
		return nil, 0, e
	}
	if n > uint64(max(most, 0)) {
		return nil, 0, api.ErrLong
	}
	// Held against what is left, not added to the place: a sum might pass an int's bound.
	if n > uint64(len(b)-from) {
		return nil, 0, api.ErrShort
	}
	text := make([]byte, n)
	copy(text, b[from:])
	return text, from + int(n), api.OK
}

// Big is a number's bytes in the numbers' order.
func Big(v int64) (out [8]byte) {
	u := uint64(v) + half
	for i := range out {
		out[i] = byte(u >> (56 - 8*i))
	}
	return out
}

// UnBig turns Big back.
func UnBig(b [8]byte) int64 {
	var u uint64
	for _, c := range b {
		u = u<<8 | uint64(c)
	}
	return int64(u - half)
}
