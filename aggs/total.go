package aggs

import (
	"math/bits"

	"oriel/api"
	"oriel/value"
)

// total is an exact sum of numbers: it has two words, as it may go beyond one and come back.
type total struct {
	high uint64
	low  uint64
}

// totalOf is the exact sum.
func totalOf(x []int64) total {
	var t total
	for _, part := range x {
		low, carry := bits.Add64(t.low, uint64(part), 0)
		t = total{high: t.high + signWord(part) + carry, low: low}
	}
	return t
}

// signWord is the upper one of the two words of a number.
func signWord(x int64) uint64 { return uint64(x >> 63) }

// number is the sum, or what is told in its place, if it may not be.
func (t total) number() api.Value {
	if t.high != signWord(int64(t.low)) {
		return value.Err(api.CodeNum)
	}
	return value.Num(int64(t.low))
}

// by is the sum by how many numbers it is of, rounded: that lies among them, so that it has a number.
func (t total) by(n int) api.Value {
	below := signWord(int64(t.high)) != 0
	if below {
		t = t.negative()
	}
	size, rest := bits.Div64(t.high, t.low, uint64(n))
	if rest >= uint64(n)-rest {
		size++
	}
	if below {
		return value.Num(-int64(size))
	}
	return value.Num(int64(size))
}

// negative is the sum with the other sign.
func (t total) negative() total {
	low, borrow := bits.Sub64(0, t.low, 0)
	high, _ := bits.Sub64(0, t.high, borrow)
	return total{high: high, low: low}
}
