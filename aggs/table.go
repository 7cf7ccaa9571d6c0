package aggs

import "oriel/api"

// function is a row of the table: the kinds of its places, how many arguments it takes at most, and whether a fault of its items is its answer ahead of all that it answers itself.
type function struct {
	places string
	most   int
	strict bool
	answer func(c call) api.Value
}

// The functions' places in the table.
const (
	atSum = iota
	atProd
	atMin
	atMax
	atAvg
	atMedian
	atCount
	atCounta
	atBlanks
	atCountif
	atSumif
	atMatch
	atLookup
	atIndex
	atLarge
	atJoin
	atRows
	atCols
	inAll
)

// table is all functions.
func table() [inAll]function {
	return [inAll]function{
		atSum:     {"x", api.MaxArgs, true, ofAll(sum)},
		atProd:    {"x", api.MaxArgs, true, ofAll(product)},
		atMin:     {"x", api.MaxArgs, true, ofSome(least)},
		atMax:     {"x", api.MaxArgs, true, ofSome(greatest)},
		atAvg:     {"x", api.MaxArgs, true, ofSome(average)},
		atMedian:  {"x", api.MaxArgs, true, ofSome(median)},
		atCount:   {"x", api.MaxArgs, false, ofAll(count)},
		atCounta:  {"x", api.MaxArgs, false, countFilled},
		atBlanks:  {"r", 1, false, countBlank},
		atCountif: {"rv", 2, false, countSame},
		atSumif:   {"rvr", 3, false, sumWhere},
		atMatch:   {"vr", 2, false, matched},
		atLookup:  {"vrr", 3, false, lookedUp},
		atIndex:   {"rnn", 3, false, indexed},
		atLarge:   {"rn", 2, true, fromGreatest},
		atJoin:    {"vx", api.MaxArgs, true, joined},
		atRows:    {"r", 1, false, countRows},
		atCols:    {"r", 1, false, countCols},
	}
}

// find is the function of a name, and whether there is one.
func find(name string) (function, bool) {
	at, known := place(name)
	if !known {
		return function{}, false
	}
	return table()[at], true
}

// place is where the function of a name stands in the table, and whether it does.
func place(name string) (int, bool) {
	switch name {
	case "SUM":
		return atSum, true
	case "PROD":
		return atProd, true
	case "MIN":
		return atMin, true
	case "MAX":
		return atMax, true
	case "AVG":
		return atAvg, true
	case "MEDIAN":
		return atMedian, true
	case "COUNT":
		return atCount, true
	case "COUNTA":
		return atCounta, true
	case "BLANKS":
		return atBlanks, true
	case "COUNTIF":
		return atCountif, true
	case "SUMIF":
		return atSumif, true
	case "MATCH":
		return atMatch, true
	case "LOOKUP":
		return atLookup, true
	case "INDEX":
		return atIndex, true
	case "LARGE":
		return atLarge, true
	case "JOIN":
		return atJoin, true
	case "ROWS":
		return atRows, true
	case "COLS":
		return atCols, true
	}
	return 0, false
}
