package value

import (
	"fmt"
	"math"
	"strings"

	"oriel/api"
)

func number(x int64) api.Value   { return api.Value{Tag: api.Number, Num: x} }
func text(s string) api.Value    { return api.Value{Tag: api.Text, Str: s} }
func truth(is bool) api.Value    { return api.Value{Tag: api.Bool, Is: is} }
func fault(c api.Code) api.Value { return api.Value{Tag: api.Fault, Code: c} }

// numbers are some that may be.
func numbers() []int64 {
	return []int64{-math.MaxInt64, 1 - math.MaxInt64, -10000, -9999, -1, 0, 1, 2, 9999, 10000, 15000, 1 << 32, math.MaxInt64 - 1, math.MaxInt64}
}

// someTexts are of all kinds: none, one that begins with another, bytes that are no runes, letters of both sizes, numbers and names.
func someTexts() []string {
	return []string{
		"", "\x00", "\x00\x00", " ", "#ARG!", "-1", "0", "1", "1.5", "10", "2", "A", "FALSE", "TRUE", "a", "a\x00", "ab", "abc", "b",
		"\x7f", "\x80", "é", "\xff", "\xff\xff", strings.Repeat("x", api.MaxText), strings.Repeat("x", api.MaxText+1), strings.Repeat("y", 1<<16),
	}
}

// good are values that may be and are no Faults: Blank, and of each tag some.
func good() []api.Value {
	list := []api.Value{{}, truth(false), truth(true)}
	for _, x := range numbers() {
		list = append(list, number(x))
	}
	for _, s := range someTexts() {
		list = append(list, text(s))
	}
	return list
}

// faults are all the Faults that may be.
func faults() []api.Value {
	var list []api.Value
	for c := api.Code(1); c <= 8; c++ {
		list = append(list, fault(c))
	}
	return list
}

// wrongTags are tags that are none.
func wrongTags() []api.Tag {
	return []api.Tag{math.MinInt, -2, -1, 5, 6, 8, 256, 1 << 32, math.MaxInt}
}

// wrongCodes are codes that no Fault may have.
func wrongCodes() []api.Code {
	return []api.Code{math.MinInt, -8, -1, 0, 9, 10, 256, 257, 1 << 32, math.MaxInt}
}

// wrongs are values that may not be: of each tag with one field too many or with all, tags that are none,
// the number that may not be, codes that may not be.
func wrongs() []api.Value {
	var list []api.Value
	for _, v := range append(good(), faults()...) {
		list = append(list, tooMany(v)...)
	}
	for _, tag := range wrongTags() {
		list = append(list, api.Value{Tag: tag}, api.Value{Tag: tag, Num: 1}, api.Value{Tag: tag, Str: "x"}, api.Value{Tag: tag, Is: true}, api.Value{Tag: tag, Code: 1})
	}
	for _, c := range wrongCodes() {
		list = append(list, fault(c))
	}
	return append(list, number(math.MinInt64))
}

// tooMany are a value with each field that is not its tag's, and with all of them.
func tooMany(v api.Value) []api.Value {
	var list []api.Value
	all := v
	add := func(tag api.Tag, put func(v *api.Value)) {
		if v.Tag == tag {
			return
		}
		one := v
		put(&one)
		put(&all)
		list = append(list, one)
	}
	add(api.Number, func(v *api.Value) { v.Num = -1 })
	add(api.Text, func(v *api.Value) { v.Str = "x" })
	add(api.Bool, func(v *api.Value) { v.Is = true })
	add(api.Fault, func(v *api.Value) { v.Code = 1 })
	return append(list, all)
}

// everything is all of these.
func everything() []api.Value {
	return append(append(good(), faults()...), wrongs()...)
}

// brief tells a value in few letters.
func brief(v api.Value) string {
	return fmt.Sprintf("{%d %d %.40q %v %d}", v.Tag, v.Num, v.Str, v.Is, v.Code)
}
