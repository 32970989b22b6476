// Package crc reckons CRC-32C, the sum by which what was turned is seen (DOC.md, chapter 1).
package crc

// reflected is the polynomial 0x1EDC6F41 with its bits in the other order:
// the sum takes the lowest bit of a byte first.
const reflected = 0x82F63B78

// table answers what each byte does to a sum that it is the lowest byte of.
// It is made anew for each call, since nothing is filled at start-up. That is
// cheap: a byte does what its bits do, one by one, so eight entries are
// reckoned and each of the others is two others laid over each other.
func table() [256]uint32 {
	var t [256]uint32
	one := uint32(1)
	for bit := 128; bit > 0; bit /= 2 {
		one = shift(one)
		for above := 0; above < 256; above += 2 * bit {
			t[above+bit] = t[above] ^ one
		}
	}
	return t
}

// shift takes one bit out of a sum.
func shift(c uint32) uint32 {
	if c&1 == 1 {
		return c>>1 ^ reflected
	}
	return c >> 1
}

// Sum answers the sum of b.
func Sum(b []byte) uint32 { return Next(0, b) }

// Next answers the sum of what had sum c, with b behind it; nothing has sum 0.
func Next(c uint32, b []byte) uint32 {
	t := table()
	c = ^c
	for _, x := range b {
		c = c>>8 ^ t[byte(c)^x]
	}
	return ^c
}

// Bytes answers the four bytes of a sum, the lowest first: in this order the
// bits of the sum go on behind those of the text, and P1.2 holds for both.
func Bytes(c uint32) []byte {
	return []byte{byte(c), byte(c >> 8), byte(c >> 16), byte(c >> 24)}
}
