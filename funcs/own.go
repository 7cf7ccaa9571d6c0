package funcs

import (
	"oriel/api"
	"oriel/given"
	"oriel/value"
)

// own is the functions of this layer's own table, by their names.
func own() map[string]function {
	one, two, twoOrThree := given.Count{Least: 1, Most: 1}, given.Count{Least: 2, Most: 2}, given.Count{Least: 2, Most: 3}
	some, oneAndSome := given.Count{Least: 1, Most: api.MaxArgs}, given.Count{Least: 2, Most: api.MaxArgs}
	return map[string]function{
		"IF":      single(twoOrThree, either),
		"AND":     single(some, ofTruths(allTrue)),
		"OR":      single(some, ofTruths(anyTrue)),
		"XOR":     single(some, ofTruths(oddTrue)),
		"NOT":     single(one, not),
		"IFERR":   single(two, unlessFault),
		"ISERR":   single(one, isTag(api.Fault)),
		"ISBLANK": single(one, isTag(api.Blank)),
		"ISNUM":   single(one, isTag(api.Number)),
		"ISTEXT":  single(one, isTag(api.Text)),
		"ISBOOL":  single(one, isTag(api.Bool)),
		"TYPE":    single(one, tagOf),
		"ERRNO":   single(one, codeOf),
		"ERR":     single(one, faultOf),
		"CHOOSE":  single(oneAndSome, chosen),
		"ASK":     single(one, unanswered),
	}
}

// single is a function of so many single arguments, asked for its answer only with such as may be.
func single(count given.Count, answer func(args []api.Arg) api.Value) function {
	return function{
		takes: func(_ string, rects []bool) bool { return count.Takes(rects) },
		call: func(_ string, args []api.Arg, _ int) api.Value {
			if !count.Singles(args) {
				return value.Err(api.CodeArg)
			}
			return answer(args)
		},
	}
}

// unlessFault is the first argument, or the second in the place of a fault.
func unlessFault(args []api.Arg) api.Value {
	if args[0].Value.Tag == api.Fault {
		return given.Copied(args[1].Value)
	}
	return given.Copied(args[0].Value)
}

// isTag is a function that tells whether a value has a tag.
func isTag(tag api.Tag) func(args []api.Arg) api.Value {
	return func(args []api.Arg) api.Value { return value.Truth(args[0].Value.Tag == tag) }
}

// tagOf is the number of a value's tag: the table counts them as package api does.
func tagOf(args []api.Arg) api.Value { return whole(int64(args[0].Value.Tag)) }

// codeOf is the number of a fault's code.
func codeOf(args []api.Arg) api.Value {
	v := args[0].Value
	if v.Tag != api.Fault {
		return value.Err(api.CodeArg)
	}
	return whole(int64(v.Code))
}

// faultOf is the fault of a code that is told by its number.
func faultOf(args []api.Arg) api.Value {
	n, code := given.Whole(args[0].Value)
	if code != api.CodeNone {
		return value.Err(code)
	}
	// CodeCycle is told of rings alone: nobody makes it of a number.
	if n <= int64(api.CodeCycle) || n > int64(api.CodeArg) {
		return value.Err(api.CodeArg)
	}
	return value.Err(api.Code(n))
}

// chosen is the one of the arguments behind the first that the first one tells.
func chosen(args []api.Arg) api.Value {
	n, code := given.Whole(args[0].Value)
	if code != api.CodeNone {
		return value.Err(code)
	}
	if n < 1 || n >= int64(len(args)) {
		return value.Err(api.CodeRange)
	}
	return given.Copied(args[n].Value)
}

// unanswered is what ASK is told here: it has no host to ask.
func unanswered([]api.Arg) api.Value { return value.Err(api.CodeArg) }

// whole is a small whole number that is answered.
func whole(n int64) api.Value { return value.Num(n * api.Scale) }
