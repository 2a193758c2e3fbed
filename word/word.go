// Package word is layer 1: whole numbers of 64 bits that never wrap unseen, their bytes, and pairs of them as complex numbers. See shared/doc/01-word.md.
package word

import (
	"math/bits"

	"pharos/api"
)

// mostPart is the greatest number up to which a float64 holds every whole number, so that pairs stay exact.
const mostPart = 1 << 53

// Add two numbers; ErrOver.
func Add(a, b uint64) (uint64, api.Errno) {
	sum, carry := bits.Add64(a, b, 0)
	if carry != 0 {
		return 0, api.ErrOver
	}
	return sum, api.OK
}

// Sub: a less b; ErrOver.
func Sub(a, b uint64) (uint64, api.Errno) {
	if b > a {
		return 0, api.ErrOver
	}
	return a - b, api.OK
}

// Mul two numbers; ErrOver.
func Mul(a, b uint64) (uint64, api.Errno) {
	high, low := bits.Mul64(a, b)
	if high != 0 {
		return 0, api.ErrOver
	}
	return low, api.OK
}

// MulDiv: a times b, divided by c, rounded down; ErrZero, ErrOver.
func MulDiv(a, b, c uint64) (uint64, api.Errno) {
	if c == 0 {
		return 0, api.ErrZero
	}
	high, low := bits.Mul64(a, b)
	// The quotient fits just when the high half is below c; Div64 panics where it isn't.
	if high >= c {
		return 0, api.ErrOver
	}
	quotient, _ := bits.Div64(high, low, c)
	return quotient, api.OK
}

// Less: a less b, or 0.
func Less(a, b uint64) uint64 {
	if b > a {
		return 0
	}
	return a - b
}

// Root: the greatest number whose square isn't above n.
func Root(n uint64) uint64 {
	if n == 0 {
		return 0
	}
	// A power of two above the root: from above, each step comes nearer and none falls below the root.
	root := uint64(1) << ((bits.Len64(n) + 1) / 2)
nearer:
	next := (root + n/root) / 2
	if next < root {
		root = next
		goto nearer
	}
	return root
}

// Bytes of a number, the lowest first.
func Bytes(n uint64) [8]byte {
	var b [8]byte
	for i := range b {
		b[i] = byte(n >> (8 * i))
	}
	return b
}

// Read eight bytes; ErrSize.
func Read(b []byte) (uint64, api.Errno) {
	if len(b) != 8 {
		return 0, api.ErrSize
	}
	n := uint64(0)
	for i, x := range b {
		n |= uint64(x) << (8 * i)
	}
	return n, api.OK
}

// Join two numbers into a complex one; ErrOver.
func Join(re, im uint64) (complex128, api.Errno) {
	if re > mostPart || im > mostPart {
		return 0, api.ErrOver
	}
	return complex(float64(re), float64(im)), api.OK
}

// Parts of a complex number; ErrArg.
func Parts(c complex128) (uint64, uint64, api.Errno) {
	re, reOK := whole(real(c))
	im, imOK := whole(imag(c))
	if !reOK || !imOK {
		return 0, 0, api.ErrArg
	}
	return re, im, api.OK
}

// whole tells the number that a part is, if it is one that Join takes.
func whole(part float64) (uint64, bool) {
	// Asked this way round, so that what is no number at all fails too.
	if !(part >= 0 && part <= mostPart) {
		return 0, false
	}
	n := uint64(part)
	if float64(n) != part {
		return 0, false
	}
	return n, true
}
