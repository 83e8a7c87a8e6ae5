// Package fix is layer 1: numbers that do not run over.
package fix

import "math/bits"

// Max is the greatest number.
const Max = 1<<64 - 1

// Add is the sum of numbers, 0 of none.
func Add(l ...uint64) uint64 {
	sum := uint64(0)
	for _, x := range l {
		next, carry := bits.Add64(sum, x, 0)
		if carry != 0 {
			return Max
		}
		sum = next
	}
	return sum
}

// Sub is a without all others.
func Sub(a uint64, l ...uint64) uint64 {
	// A sum that ran over is told as Max, and no a is above that: the answer is 0 then, as it should be.
	left, borrow := bits.Sub64(a, Add(l...), 0)
	if borrow != 0 {
		return 0
	}
	return left
}

// Mul is a times b.
func Mul(a, b uint64) uint64 {
	high, low := bits.Mul64(a, b)
	if high != 0 {
		return Max
	}
	return low
}

// Share is a times b, by c, rounded down.
func Share(a, b, c uint64) uint64 {
	quotient, _ := divide(a, b, c)
	return quotient
}

// Over is a times b, by c, rounded up.
func Over(a, b, c uint64) uint64 {
	quotient, left := divide(a, b, c)
	if left == 0 {
		return quotient
	}
	return Add(quotient, 1)
}

// divide is a times b, by c, and what is left; Max and 0, if that is above Max, or c is 0.
func divide(a, b, c uint64) (quotient, left uint64) {
	high, low := bits.Mul64(a, b)
	// The quotient is beyond 64 bits just if high is c at least, which is always so of a c of 0: Div64 would panic at either.
	if high >= c {
		return Max, 0
	}
	return bits.Div64(high, low, c)
}
