package texts

import (
	"oriel/api"
	"oriel/given"
)

// function is a row of the table: so many of its arguments, from the left, are texts, all others numbers.
type function struct {
	count  given.Count
	texts  int
	answer func(c call) api.Value
}

// The functions' places in the table.
const (
	atLen = iota
	atLeft
	atRight
	atMid
	atUpper
	atLower
	atTrim
	atRept
	atFind
	atSubst
	atConcat
	atOrd
	atChar
	atExact
	atRev
	atNum
	inAll
)

// table is all functions.
func table() [inAll]function {
	one, two, three := given.Count{Least: 1, Most: 1}, given.Count{Least: 2, Most: 2}, given.Count{Least: 3, Most: 3}
	oneOrTwo, twoOrThree, many := given.Count{Least: 1, Most: 2}, given.Count{Least: 2, Most: 3}, given.Count{Least: 1, Most: api.MaxArgs}
	return [inAll]function{
		atLen:    {one, 1, length},
		atLeft:   {oneOrTwo, 1, left},
		atRight:  {oneOrTwo, 1, right},
		atMid:    {three, 1, middle},
		atUpper:  {one, 1, upper},
		atLower:  {one, 1, lower},
		atTrim:   {one, 1, trimmed},
		atRept:   {two, 1, repeated},
		atFind:   {twoOrThree, 2, firstPlace},
		atSubst:  {three, 3, replaced},
		atConcat: {many, api.MaxArgs, joined},
		atOrd:    {one, 1, firstByte},
		atChar:   {one, 0, oneByte},
		atExact:  {two, 2, same},
		atRev:    {one, 1, reversed},
		atNum:    {one, 1, number},
	}
}

// find is the function of a name, and whether there is one.
func find(name string) (function, bool) {
	at, known := place(name)
	if !known {
		return function{}, false
	}
	return table()[at], true
}

// place is where the function of a name stands in the table, and whether it does.
func place(name string) (int, bool) {
	switch name {
	case "LEN":
		return atLen, true
	case "LEFT":
		return atLeft, true
	case "RIGHT":
		return atRight, true
	case "MID":
		return atMid, true
	case "UPPER":
		return atUpper, true
	case "LOWER":
		return atLower, true
	case "TRIM":
		return atTrim, true
	case "REPT":
		return atRept, true
	case "FIND":
		return atFind, true
	case "SUBST":
		return atSubst, true
	case "CONCAT":
		return atConcat, true
	case "ORD":
		return atOrd, true
	case "CHAR":
		return atChar, true
	case "EXACT":
		return atExact, true
	case "REV":
		return atRev, true
	case "NUM":
		return atNum, true
	}
	return 0, false
}
