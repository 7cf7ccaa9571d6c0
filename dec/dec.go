// Package dec is layer 1: numbers in parts of 1/10000, checked; see shared/doc/01-dec.md.
package dec

import (
	"math"
	"math/bits"

	"oriel/api"
)

// The sizes of numbers: greatest is the last that has a number, beyond stands for every one above it.
const (
	greatest uint64 = math.MaxInt64
	beyond   uint64 = greatest + 1
)

// The places that Round has to work for: above mostPlaces no number has a digit, and below
// leastPlaces every number is nearer to nought than to any other multiple.
const (
	partPlaces  = 4
	mostPlaces  = 3
	leastPlaces = -15
)

// May tells whether a number may be.
func May(x int64) bool { return x != math.MinInt64 }

// Neg is a number with the other sign.
func Neg(x int64) (int64, api.Code) {
	if !May(x) {
		return 0, api.CodeNum
	}
	return -x, api.CodeNone
}

// Add is the sum.
func Add(a, b int64) (int64, api.Code) {
	if !May(a) || !May(b) {
		return 0, api.CodeNum
	}
	low, carry := bits.Add64(uint64(a), uint64(b), 0)
	high := signWord(a) + signWord(b) + carry
	sum := int64(low)
	if high != signWord(sum) || !May(sum) {
		return 0, api.CodeNum
	}
	return sum, api.CodeNone
}

// Sub is the difference.
func Sub(a, b int64) (int64, api.Code) {
	if !May(b) {
		return 0, api.CodeNum
	}
	return Add(a, -b)
}

// Mul is the product.
func Mul(a, b int64) (int64, api.Code) {
	if !May(a) || !May(b) {
		return 0, api.CodeNum
	}
	high, low := bits.Mul64(size(a), size(b))
	return signed(quotient(high, low, api.Scale), (a < 0) != (b < 0))
}

// Div is the quotient.
func Div(a, b int64) (int64, api.Code) {
	if !May(a) || !May(b) {
		return 0, api.CodeNum
	}
	if b == 0 {
		return 0, api.CodeDiv
	}
	high, low := bits.Mul64(size(a), api.Scale)
	return signed(quotient(high, low, size(b)), (a < 0) != (b < 0))
}

// Mod is what is left of a number when it is divided.
func Mod(a, b int64) (int64, api.Code) {
	if !May(a) || !May(b) {
		return 0, api.CodeNum
	}
	if b == 0 {
		return 0, api.CodeDiv
	}
	rest := a % b
	if rest != 0 && (rest < 0) != (b < 0) {
		rest += b
	}
	return rest, api.CodeNone
}

// Round is a number with so many places.
func Round(x int64, places int) (int64, api.Code) {
	if !May(x) {
		return 0, api.CodeNum
	}
	if places > mostPlaces {
		return x, api.CodeNone
	}
	if places < leastPlaces {
		return 0, api.CodeNone
	}
	step := uint64(1)
	for range partPlaces - places {
		step *= 10
	}
	// The product has room: it is at most half a step above x, and half of 10^19 above 2^63 is below 2^64.
	return signed(quotient(0, size(x), step)*step, x < 0)
}

// Floor is the greatest whole number that is not above a number.
func Floor(x int64) (int64, api.Code) {
	if !May(x) {
		return 0, api.CodeNum
	}
	rest := x % api.Scale
	if rest < 0 {
		rest += api.Scale
	}
	return Sub(x, rest)
}

// Whole tells which whole number a number is.
func Whole(x int64) (int64, bool) {
	if !May(x) || x%api.Scale != 0 {
		return 0, false
	}
	return x / api.Scale, true
}

// signWord is the upper one of the two words of a number.
func signWord(x int64) uint64 { return uint64(x >> 63) }

// size is a number without its sign.
func size(x int64) uint64 {
	if x < 0 {
		return uint64(-x)
	}
	return uint64(x)
}

// signed is the number of a size and a sign.
func signed(size uint64, below bool) (int64, api.Code) {
	if size > greatest {
		return 0, api.CodeNum
	}
	if below {
		return -int64(size), api.CodeNone
	}
	return int64(size), api.CodeNone
}

// quotient is two words divided by one that is not 0, halves rounded up; any answer from beyond on says too great.
func quotient(high, low, by uint64) uint64 {
	if high >= by {
		return beyond
	}
	whole, rest := bits.Div64(high, low, by)
	if whole >= beyond {
		return beyond
	}
	if rest >= by-rest {
		whole++
	}
	return whole
}
