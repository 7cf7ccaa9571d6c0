package aggs

import (
	"iter"
	"strings"

	"oriel/api"
	"oriel/value"
)

// items are the values of arguments, one's behind the other's.
func items(args []api.Arg) iter.Seq[api.Value] {
	return func(yield func(api.Value) bool) {
		for _, a := range args {
			if !a.Many && !yield(a.Value) {
				return
			}
			for _, e := range a.Entries {
				if !yield(e.Value) {
					return
				}
			}
		}
	}
}

// firstFault is the first fault of the items, and whether there is one.
func firstFault(args []api.Arg) (api.Value, bool) {
	for v := range items(args) {
		if v.Tag == api.Fault {
			return v, true
		}
	}
	return api.Value{}, false
}

// numbersOf are the numbers among the items.
func numbersOf(args []api.Arg) []int64 {
	var list []int64
	for v := range items(args) {
		if v.Tag == api.Number {
			list = append(list, v.Num)
		}
	}
	return list
}

// countFilled is how many items are not Blank.
func countFilled(c call) api.Value {
	n := 0
	for v := range items(c.args) {
		if v.Tag != api.Blank {
			n++
		}
	}
	return counted(n)
}

// joined is the items that are not Blank as one text, with another one between each two.
func joined(c call) api.Value {
	between, _ := value.AsText(c.args[0].Value)
	var all strings.Builder
	ahead := ""
	for v := range items(c.args[1:]) {
		if v.Tag == api.Blank {
			continue
		}
		piece, _ := value.AsText(v)
		// It is refused ahead of being made: of many long items there may be no room for it.
		if all.Len()+len(ahead)+len(piece) > c.most {
			return value.Err(api.CodeLong)
		}
		all.WriteString(ahead)
		all.WriteString(piece)
		ahead = between
	}
	return value.Txt(all.String())
}

// counted is a whole number that is answered: so many items or cells that it may not be there are not.
func counted(n int) api.Value { return value.Num(int64(n) * api.Scale) }
