// Package crc is layer 1: the sum by which frames and snapshots are told from
// spoilt ones (shared/doc/01-crc.md).
package crc

// poly is Ethernet's polynomial with its bits in reverse, since the lowest bit
// of a byte goes first.
const poly = 0xedb88320

// size is how many bytes a sum has.
const size = 4

// More gives the sum's state behind the bytes of s, from the state c on.
//
// The bits that are turned behind one byte and ahead of the next cancel out, so
// they are turned only at both ends.
func More(c uint32, s string) uint32 {
	c = ^c
	for i := range len(s) {
		c = shift(c ^ uint32(s[i]))
	}
	return ^c
}

// Sum gives the sum of the bytes of s.
func Sum(s string) uint32 { return More(0, s) }

// Text gives c in four bytes, the lowest first.
func Text(c uint32) string {
	b := make([]byte, size)
	for i := range size {
		b[i] = byte(c >> (8 * i))
	}
	return string(b)
}

// Read gives the number that Text made the bytes of; false, unless there are
// just four.
func Read(s string) (uint32, bool) {
	if len(s) != size {
		return 0, false
	}
	c := uint32(0)
	for i := range size {
		c |= uint32(s[i]) << (8 * i)
	}
	return c, true
}

// shift takes one byte's bits out of c at its low end.
func shift(c uint32) uint32 {
	for range 8 {
		odd := c&1 == 1
		c >>= 1
		if odd {
			c ^= poly
		}
	}
	return c
}
