package funcs

import (
	"strings"

	"oriel/aggs"
	"oriel/api"
	"oriel/nums"
	"oriel/texts"
)

// The names that the layers below know: they tell of a name whether they know it, but not which there are.
const (
	ofNums  = "ABS SIGN INT TRUNC ROUND FLOOR CEIL MOD QUOT POWER SQRT GCD LCM FACT CLAMP ODD"
	ofTexts = "LEN LEFT RIGHT MID UPPER LOWER TRIM REPT FIND SUBST CONCAT ORD CHAR EXACT REV NUM"
	ofAggs  = "SUM PROD MIN MAX AVG MEDIAN COUNT COUNTA BLANKS COUNTIF SUMIF MATCH LOOKUP INDEX LARGE JOIN ROWS COLS"
)

// function is who is asked of a name: what it takes, and what it answers.
type function struct {
	takes func(name string, rects []bool) bool
	call  func(name string, args []api.Arg, text int) api.Value
}

// index is all functions, by their names.
func index() map[string]function {
	all := own()
	add(all, ofNums, function{takes: nums.Takes, call: nums.Call})
	add(all, ofTexts, function{takes: texts.Takes, call: texts.Call})
	add(all, ofAggs, function{takes: aggs.Takes, call: aggs.Call})
	return all
}

// add puts a function under each of some names.
func add(all map[string]function, names string, f function) {
	for _, name := range strings.Fields(names) {
		all[name] = f
	}
}
