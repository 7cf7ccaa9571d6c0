package nums

import (
	"oriel/api"
	"oriel/given"
)

// function is a row of the table: what it answers is asked with as many numbers as it takes.
type function struct {
	count  given.Count
	answer func(x []int64) api.Value
}

// The functions' places in the table.
const (
	atAbs = iota
	atSign
	atInt
	atTrunc
	atRound
	atFloor
	atCeil
	atMod
	atQuot
	atPower
	atSqrt
	atGcd
	atLcm
	atFact
	atClamp
	atOdd
	inAll
)

// table is all functions.
func table() [inAll]function {
	one, two, three := given.Count{Least: 1, Most: 1}, given.Count{Least: 2, Most: 2}, given.Count{Least: 3, Most: 3}
	oneOrTwo, many := given.Count{Least: 1, Most: 2}, given.Count{Least: 1, Most: api.MaxArgs}
	return [inAll]function{
		atAbs:   {one, abs},
		atSign:  {one, sign},
		atInt:   {one, floor},
		atTrunc: {oneOrTwo, trunc},
		atRound: {oneOrTwo, round},
		atFloor: {two, multipleBelow},
		atCeil:  {two, multipleAbove},
		atMod:   {two, rest},
		atQuot:  {two, quotient},
		atPower: {two, power},
		atSqrt:  {one, root},
		atGcd:   {many, greatestDivisor},
		atLcm:   {many, leastMultiple},
		atFact:  {one, factorial},
		atClamp: {three, clamp},
		atOdd:   {one, odd},
	}
}

// find is the function of a name, and whether there is one.
func find(name string) (function, bool) {
	at, known := place(name)
	if !known {
		return function{}, false
	}
	return table()[at], true
}

// place is where the function of a name stands in the table, and whether it does.
func place(name string) (int, bool) {
	switch name {
	case "ABS":
		return atAbs, true
	case "SIGN":
		return atSign, true
	case "INT":
		return atInt, true
	case "TRUNC":
		return atTrunc, true
	case "ROUND":
		return atRound, true
	case "FLOOR":
		return atFloor, true
	case "CEIL":
		return atCeil, true
	case "MOD":
		return atMod, true
	case "QUOT":
		return atQuot, true
	case "POWER":
		return atPower, true
	case "SQRT":
		return atSqrt, true
	case "GCD":
		return atGcd, true
	case "LCM":
		return atLcm, true
	case "FACT":
		return atFact, true
	case "CLAMP":
		return atClamp, true
	case "ODD":
		return atOdd, true
	}
	return 0, false
}
