package nums

import (
	"cmp"

	"oriel/api"
	"oriel/dec"
	"oriel/value"
)

// The places that trunc has to work for: above mostPlaces no number has a digit, and at leastPlaces
// and below every multiple but nought is further from nought than all numbers are.
const (
	partPlaces  = 4
	mostPlaces  = 3
	leastPlaces = -15
)

// far is beyond all places and exponents that a number hangs on: whole numbers further from nought say the same.
const far = 1000

// abs is a number without its sign.
func abs(x []int64) api.Value { return value.Num(size(x[0])) }

// size is a number without its sign.
func size(x int64) int64 { return max(x, -x) }

// sign is 1, 0 or -1.
func sign(x []int64) api.Value { return value.Num(int64(cmp.Compare(x[0], 0)) * api.Scale) }

// floor is the greatest whole number that is not above a number.
func floor(x []int64) api.Value { return told(dec.Floor(x[0])) }

// trunc is a number with so many places, without what is behind them.
func trunc(x []int64) api.Value {
	places, whole := placesOf(x)
	switch {
	case !whole:
		return value.Err(api.CodeArg)
	case places > mostPlaces:
		return value.Num(x[0])
	case places <= leastPlaces:
		return value.Num(0)
	}
	step := int64(1)
	for range partPlaces - places {
		step *= 10
	}
	return value.Num(x[0] - x[0]%step)
}

// round is a number with so many places, the nearest one.
func round(x []int64) api.Value {
	places, whole := placesOf(x)
	if !whole {
		return value.Err(api.CodeArg)
	}
	return told(dec.Round(x[0], places))
}

// placesOf is the second number, or 0, if there is none, and whether it is whole.
func placesOf(x []int64) (int, bool) {
	if len(x) == 1 {
		return 0, true
	}
	return small(x[1])
}

// small is a whole number as an int, held within far, and whether it is whole.
func small(x int64) (int, bool) {
	n, whole := dec.Whole(x)
	return int(max(-far, min(far, n))), whole
}

// multipleBelow is the greatest multiple that is not above a number.
func multipleBelow(x []int64) api.Value { return multiple(x[0], x[1], x[1]) }

// multipleAbove is the least multiple that is not below a number: what is left has the sign of what one divides by.
func multipleAbove(x []int64) api.Value { return multiple(x[0], x[1], -x[1]) }

// multiple is a number less what is left of it when it is divided by a step, which may have the other sign.
func multiple(x, step, by int64) api.Value {
	if step <= 0 {
		return value.Err(api.CodeArg)
	}
	// by is not 0, so that something is left, if only nought.
	left, _ := dec.Mod(x, by)
	return told(dec.Sub(x, left))
}

// clamp is a number held within two others.
func clamp(x []int64) api.Value {
	low, high := x[1], x[2]
	if low > high {
		return value.Err(api.CodeArg)
	}
	return value.Num(max(low, min(high, x[0])))
}
