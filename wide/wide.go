// Package wide is layer 1: products of 64-bit integers with 128 bits, and their quotients. See shared/doc/01-wide.md.
package wide

import (
	"math/bits"

	"billiard/api"
)

// Mul returns the product of a and b as high * 2^64 + low.
func Mul(a, b int64) (high int64, low uint64) {
	negate := negatesIf((a < 0) != (b < 0))
	h, l := negate(bits.Mul64(magnitude(a), magnitude(b)))
	return int64(h), l
}

// MulDiv returns the floor of a * b / c.
func MulDiv(a, b, c int64) (int64, api.Errno) {
	if c == 0 {
		return 0, api.ErrZero
	}
	negative := (a < 0) != (b < 0) != (c < 0)
	return quotient(magnitude(a), magnitude(b), magnitude(c), negative)
}

// MulShift returns the floor of a * b / 2^n, for n from 0 to 63.
func MulShift(a, b int64, n int) (int64, api.Errno) {
	if n < 0 || n > 63 {
		return 0, api.ErrArg
	}
	negative := (a < 0) != (b < 0)
	return quotient(magnitude(a), magnitude(b), 1<<n, negative)
}

// Less reports whether ah * 2^64 + al is less than bh * 2^64 + bl.
func Less(ah int64, al uint64, bh int64, bl uint64) bool {
	return ah < bh || ah == bh && al < bl
}

// magnitude returns the absolute value of n. The conversion is what makes that of -2^63, which negation leaves as it is, 2^63.
func magnitude(n int64) uint64 {
	if n < 0 {
		return uint64(-n)
	}
	return uint64(n)
}

// negatesIf returns a function that negates numbers of 128 bits if negative is set, and otherwise returns them as they are.
func negatesIf(negative bool) func(high, low uint64) (uint64, uint64) {
	return func(high, low uint64) (uint64, uint64) {
		if !negative {
			return high, low
		}
		l, borrow := bits.Sub64(0, low, 0)
		h, _ := bits.Sub64(0, high, borrow)
		return h, l
	}
}

// quotient returns the floor of a * b / c, or, if negative is set, that of -(a * b / c). None of a, b and c is greater than 2^63, and c is not 0.
func quotient(a, b, c uint64, negative bool) (int64, api.Errno) {
	high, low := bits.Mul64(a, b)
	if negative {
		// The floor of a negative number is the one with the greater magnitude: round up. 2^126 + 2^63 has room in 128 bits.
		var carry uint64
		low, carry = bits.Add64(low, c-1, 0)
		high += carry
	}
	if high >= c {
		// The magnitude is at least 2^64, which bits.Div64 does not accept.
		return 0, api.ErrRange
	}
	q, _ := bits.Div64(high, low, c)
	negate := negatesIf(negative)
	high, low = negate(0, q)
	// A number has 64 bits if its upper half repeats the sign of its lower one.
	if int64(high) != int64(low)>>63 {
		return 0, api.ErrRange
	}
	return int64(low), api.OK
}
