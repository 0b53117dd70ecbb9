// Package little reads and writes numbers of a fixed number of bytes, the lowest first.
package little

// Get is the number that bytes write; of more than eight the first eight count.
func Get(b []byte) uint64 {
	n := uint64(0)
	for i, c := range b {
		n |= uint64(c) << (8 * i)
	}
	return n
}

// Put writes a number over bytes, as much of it as they can bear.
func Put(b []byte, n uint64) {
	for i := range b {
		b[i] = byte(n >> (8 * i))
	}
}
