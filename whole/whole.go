// Package whole: never out of bounds: see DOC.md, chapter 1.
package whole

import (
	"cmp"
	"math/bits"
)

// Two's complement has one number more below zero than above it.
const (
	mostAbove = 1<<63 - 1
	mostBelow = 1 << 63
)

// Add adds.
func Add(a, b int64) (int64, bool) {
	sum := a + b
	// Only terms of one sign overflow, and then the wrapped sum has the other.
	if (a < 0) == (b < 0) && (sum < 0) != (a < 0) {
		return 0, false
	}
	return sum, true
}

// Sub takes away.
func Sub(a, b int64) (int64, bool) {
	less := a - b
	// Not Add(a, -b): the least number has no opposite.
	if (a < 0) != (b < 0) && (less < 0) != (a < 0) {
		return 0, false
	}
	return less, true
}

// Mul multiplies.
func Mul(a, b int64) (int64, bool) {
	return narrow(Wide(a, b))
}

// MulDiv multiplies, and divides.
func MulDiv(a, b, c int64) (int64, bool) {
	if c == 0 {
		return 0, false
	}
	by := size(c)
	hi, lo := bits.Mul64(size(a), size(b))
	// Div64 panics on a quotient of more than 64 bits.
	if hi >= by {
		return 0, false
	}
	quo, rest := bits.Div64(hi, lo, by)
	below := (a < 0) != (b < 0) != (c < 0)
	if below {
		return negative(quo, rest != 0)
	}
	if quo > mostAbove {
		return 0, false
	}
	return int64(quo), true
}

// Held holds a number within bounds.
func Held(a, lo, hi int64) int64 {
	if a < lo || lo > hi {
		return lo
	}
	return min(a, hi)
}

// Sum adds all.
func Sum(l ...int64) (int64, bool) {
	var hi, lo uint64
	for _, x := range l {
		var carry uint64
		lo, carry = bits.Add64(lo, uint64(x), 0)
		hi, _ = bits.Add64(hi, uint64(sign(x)), carry)
	}
	return narrow(int64(hi), lo)
}

// Wide multiplies in 128 bits.
func Wide(a, b int64) (hi int64, lo uint64) {
	up, low := bits.Mul64(uint64(a), uint64(b))
	// Read without its sign, a negative factor is 2^64 too great: the upper
	// half then has the other factor once too often.
	return int64(up) - sign(a)&b - sign(b)&a, low
}

// CmpMul compares two products.
func CmpMul(a, b, c, d int64) int {
	hi, lo := Wide(a, b)
	up, low := Wide(c, d)
	if hi != up {
		return cmp.Compare(hi, up)
	}
	return cmp.Compare(lo, low)
}

// sign tells the upper half that a has in 128 bits: all ones or all zeros.
func sign(a int64) int64 {
	return a >> 63
}

// size tells how far a is from 0, unsigned so that the least number has a size.
func size(a int64) uint64 {
	if a < 0 {
		return -uint64(a)
	}
	return uint64(a)
}

// narrow takes a number of 128 bits that may fit into 64.
func narrow(hi int64, lo uint64) (int64, bool) {
	if hi != sign(int64(lo)) {
		return 0, false
	}
	return int64(lo), true
}

// negative answers -quo, or one less for a quotient that was not exact: down
// is away from 0 there.
func negative(quo uint64, inexact bool) (int64, bool) {
	// Asked ahead of adding, which could wrap round.
	if quo > mostBelow || quo == mostBelow && inexact {
		return 0, false
	}
	if inexact {
		quo++
	}
	return int64(-quo), true
}
