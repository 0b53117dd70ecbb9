// Package crc is layer 2: a check sum of 32 bits.
package crc

const (
	polynomial = 0xEDB88320
	allBits    = 0xFFFFFFFF
	sumBytes   = 4
)

// Sum is the sum of the parts.
func Sum(parts ...[]byte) uint32 {
	register := uint32(allBits)
	for _, part := range parts {
		for _, c := range part {
			register = moveOn(register ^ uint32(c))
		}
	}
	return register ^ allBits
}

// moveOn moves the register on by the eight bits of a byte.
func moveOn(register uint32) uint32 {
	for range 8 {
		// The lowest bit's negative is all bits or none: a choice without a branch, as no branch foretells these bits.
		register = register>>1 ^ polynomial&-(register&1)
	}
	return register
}

// lowestFirst is a sum's bytes.
func lowestFirst(sum uint32) [sumBytes]byte {
	return [sumBytes]byte{byte(sum), byte(sum >> 8), byte(sum >> 16), byte(sum >> 24)}
}

// Seal puts the sum ahead of the bytes.
func Seal(b []byte) []byte {
	sum := lowestFirst(Sum(b))
	return append(append(make([]byte, 0, sumBytes+len(b)), sum[:]...), b...)
}

// Open takes sealed bytes out.
func Open(b []byte) ([]byte, bool) {
	if len(b) < sumBytes {
		return nil, false
	}
	behind := b[sumBytes:]
	if [sumBytes]byte(b) != lowestFirst(Sum(behind)) {
		return nil, false
	}
	return append([]byte{}, behind...), true
}
