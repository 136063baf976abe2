// Package fit is layer 1: numbers that are cut to fewer bits (see shared/doc/01-fit.md).
package fit

import (
	"iter"
	"math/bits"
)

const width = 64

// To is the same number as another type's, and true; or 0, false, if that type has no such number.
func To[T int8 | int16 | int32 | uint8 | uint16 | uint32](n int64) (T, bool) {
	t := T(n)
	// What comes back the same has lost nothing on the way.
	if int64(t) != n {
		return 0, false
	}
	return t, true
}

// Low is the lowest bits; fewer than none count as none, more than 64 as 64.
func Low(n uint64, bits int) uint64 {
	up := above(bits)
	return n << up >> up
}

// Sign is the number that the lowest bits are in two's complement; 0 of none.
func Sign(n uint64, bits int) int64 {
	up := above(bits)
	// The shift back is one of a signed number, so that the highest bit left is the sign.
	return int64(n<<up) >> up
}

// above is how many bits stand above the lowest ones.
func above(bits int) int {
	return width - min(max(bits, 0), width)
}

// Join is two halves as one number.
func Join(high, low uint32) uint64 {
	return uint64(high)<<32 | uint64(low)
}

// Halves is a number's halves.
func Halves(n uint64) (high, low uint32) {
	return uint32(n >> 32), uint32(n)
}

// Rot is the bits, turned round to the left, or to the right if by is below 0.
func Rot(n uint64, by int) uint64 {
	return bits.RotateLeft64(n, by)
}

// Bits is the places of the bits that are 1, rising.
func Bits(n uint64) iter.Seq[int] {
	return func(yield func(int) bool) {
		// n itself stays as it is, so that the places can be gone through again.
		for rest := n; rest != 0; rest &= rest - 1 {
			if !yield(bits.TrailingZeros64(rest)) {
				return
			}
		}
	}
}

// Of is the number with bits at places; those that aren't from 0 to 63 are left out.
func Of(list []int) uint64 {
	var n uint64
	for _, place := range list {
		if place >= 0 && place < width {
			n |= 1 << place
		}
	}
	return n
}
