package nums

import (
	"slices"

	"oriel/api"
	"oriel/dec"
	"oriel/value"
)

// rest is what is left of a number when it is divided.
func rest(x []int64) api.Value { return told(dec.Mod(x[0], x[1])) }

// quotient is the whole part of a quotient.
func quotient(x []int64) api.Value {
	a, b := x[0], x[1]
	if b == 0 {
		return value.Err(api.CodeDiv)
	}
	// So many parts, times Scale, are so many whole ones.
	return told(dec.Mul(a/b, api.Scale*api.Scale))
}

// power is a number to the power of a whole one.
func power(x []int64) api.Value {
	n, whole := small(x[1])
	if !whole {
		return value.Err(api.CodeArg)
	}
	return told(dec.Power(x[0], n))
}

// root is the square root.
func root(x []int64) api.Value { return told(dec.Sqrt(x[0])) }

// greatestDivisor is the greatest whole number that divides all.
func greatestDivisor(x []int64) api.Value {
	if slices.ContainsFunc(x, broken) {
		return value.Err(api.CodeArg)
	}
	divisor := int64(0)
	for _, n := range x {
		divisor = common(divisor, n)
	}
	return value.Num(divisor)
}

// leastMultiple is the least whole number above 0 that each divides, or 0, if one is that.
func leastMultiple(x []int64) api.Value {
	if slices.ContainsFunc(x, broken) {
		return value.Err(api.CodeArg)
	}
	// A 0 counts also where the multiple of the others may not be.
	if slices.Contains(x, 0) {
		return value.Num(0)
	}
	least := int64(api.Scale)
	for _, n := range x {
		// What divides two whole numbers is at least 1: so there is room for Scale times the quotient.
		times := least / common(least, n) * api.Scale
		next, code := dec.Mul(times, size(n))
		if code != api.CodeNone {
			return value.Err(code)
		}
		least = next
	}
	return value.Num(least)
}

// broken tells whether a number is not whole.
func broken(x int64) bool {
	_, whole := dec.Whole(x)
	return !whole
}

// common is the greatest number of parts that divides both: of whole numbers that is a whole one.
func common(a, b int64) int64 {
	for b != 0 {
		a, b = b, a%b
	}
	return size(a)
}

// factorial is the product of the whole numbers up to one.
func factorial(x []int64) api.Value {
	if broken(x[0]) || x[0] < 0 {
		return value.Err(api.CodeArg)
	}
	product := int64(api.Scale)
	for n := int64(api.Scale); n <= x[0]; n += api.Scale {
		next, code := dec.Mul(product, n)
		if code != api.CodeNone {
			return value.Err(code)
		}
		product = next
	}
	return value.Num(product)
}

// odd tells whether 2 does not divide a whole number.
func odd(x []int64) api.Value {
	n, whole := dec.Whole(x[0])
	if !whole {
		return value.Err(api.CodeArg)
	}
	return value.Truth(n%2 != 0)
}
