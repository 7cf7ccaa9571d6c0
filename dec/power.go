package dec

import (
	"math"
	"math/bits"

	"oriel/api"
)

// MaxPower is the greatest exponent, and without its sign the least.
const MaxPower = 64

// natural is a whole number above 0, least word first, its last word not 0.
type natural []uint64

// Power is a number to the power of a whole one.
func Power(x int64, n int) (int64, api.Code) {
	switch {
	case !May(x):
		return 0, api.CodeNum
	case n < -MaxPower || n > MaxPower:
		return 0, api.CodeArg
	case x == 0 && n < 0:
		return 0, api.CodeDiv
	case x == 0 && n > 0:
		return 0, api.CodeNone
	case n < 0:
		return powerOf(api.Scale, size(x), -n, x < 0)
	default:
		return powerOf(size(x), api.Scale, n, x < 0)
	}
}

// powerOf is a fraction to the power of n. Both sides are raised exactly, so that it is rounded but once.
func powerOf(top, bottom uint64, n int, below bool) (int64, api.Code) {
	parts := nearest(raise(top, n).times(api.Scale), raise(bottom, n))
	return signed(parts, below && n%2 != 0)
}

// raise is a word that is not 0 to the power of n.
func raise(word uint64, n int) natural {
	product := natural{1}
	for range n {
		product = product.times(word)
	}
	return product
}

// times is the product with a word that is not 0.
func (n natural) times(by uint64) natural {
	product := make(natural, 0, len(n)+1)
	carry := uint64(0)
	for _, word := range n {
		high, low := bits.Mul64(word, by)
		low, over := bits.Add64(low, carry, 0)
		product = append(product, low)
		carry = high + over
	}
	if carry != 0 {
		product = append(product, carry)
	}
	return product
}

// atMost tells whether a number is not above another one.
func (n natural) atMost(other natural) bool {
	if len(n) != len(other) {
		return len(n) < len(other)
	}
	for i := len(n) - 1; i >= 0; i-- {
		if n[i] != other[i] {
			return n[i] < other[i]
		}
	}
	return true
}

// nearest is a quotient, halves rounded up, or beyond. That is the greatest q for which q less a half,
// times bottom, is not above top; it is found bit by bit, and twice of both is taken, to have whole numbers.
func nearest(top, bottom natural) uint64 {
	twice := top.times(2)
	if bottom.times(math.MaxUint64).atMost(twice) {
		return beyond
	}
	q := uint64(0)
	for bit := beyond >> 1; bit > 0; bit >>= 1 {
		if bottom.times(2*(q+bit) - 1).atMost(twice) {
			q += bit
		}
	}
	return q
}

// Sqrt is the square root.
func Sqrt(x int64) (int64, api.Code) {
	if !May(x) {
		return 0, api.CodeNum
	}
	if x < 0 {
		return 0, api.CodeArg
	}
	// The parts are the root of x times Scale: the greatest number that, less a half, squared, is not above
	// that. Four times of both is taken, to have whole numbers. No root has more than 39 bits.
	high, low := bits.Mul64(size(x), 4*api.Scale)
	root := uint64(0)
	for bit := uint64(1) << 38; bit > 0; bit >>= 1 {
		odd := 2*(root+bit) - 1
		upper, lower := bits.Mul64(odd, odd)
		if upper < high || upper == high && lower <= low {
			root += bit
		}
	}
	return signed(root, false)
}
