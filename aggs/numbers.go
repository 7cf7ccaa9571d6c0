package aggs

import (
	"slices"

	"oriel/api"
	"oriel/dec"
	"oriel/value"
)

// ofAll is a function of the numbers among the items. They are its own: it may put them in order.
func ofAll(answer func(x []int64) api.Value) func(c call) api.Value {
	return func(c call) api.Value { return answer(numbersOf(c.args)) }
}

// ofSome is the like, but of no numbers at all nothing is found.
func ofSome(answer func(x []int64) api.Value) func(c call) api.Value {
	return ofAll(func(x []int64) api.Value {
		if len(x) == 0 {
			return value.Err(api.CodeMiss)
		}
		return answer(x)
	})
}

// sum is the exact sum.
func sum(x []int64) api.Value { return totalOf(x).number() }

// product is 1, times each number in order.
func product(x []int64) api.Value {
	all := int64(api.Scale)
	for _, factor := range x {
		next, code := dec.Mul(all, factor)
		if code != api.CodeNone {
			return value.Err(code)
		}
		all = next
	}
	return value.Num(all)
}

// least is the least of some numbers.
func least(x []int64) api.Value { return value.Num(slices.Min(x)) }

// greatest is the greatest of some numbers.
func greatest(x []int64) api.Value { return value.Num(slices.Max(x)) }

// average is the sum of some numbers by how many they are.
func average(x []int64) api.Value { return totalOf(x).by(len(x)) }

// median is the one in the middle of some numbers, or what lies halfway between the two there.
func median(x []int64) api.Value {
	slices.Sort(x)
	middle := len(x) / 2
	if len(x)%2 == 0 {
		return average(x[middle-1 : middle+1])
	}
	return value.Num(x[middle])
}

// count is how many numbers there are.
func count(x []int64) api.Value { return counted(len(x)) }

// fromGreatest is a rectangle's number at a place, counted from the greatest on.
func fromGreatest(c call) api.Value {
	x, k := numbersOf(c.args[:1]), c.wholes[0]
	if k < 1 || k > int64(len(x)) {
		return value.Err(api.CodeRange)
	}
	slices.Sort(x)
	return value.Num(x[len(x)-int(k)])
}
