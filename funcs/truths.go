package funcs

import (
	"oriel/api"
	"oriel/given"
	"oriel/value"
)

// either is the second argument, if the first one's truth is true; else the third, or FALSE, if there is none.
func either(args []api.Arg) api.Value {
	// A fault's own code comes of taking it for a truth.
	is, code := value.AsBool(args[0].Value)
	switch {
	case code != api.CodeNone:
		return value.Err(code)
	case is:
		return given.Copied(args[1].Value)
	case len(args) == 2:
		return value.Truth(false)
	}
	return given.Copied(args[2].Value)
}

// not is the other truth.
func not(args []api.Arg) api.Value {
	is, code := value.AsBool(args[0].Value)
	if code != api.CodeNone {
		return value.Err(code)
	}
	return value.Truth(!is)
}

// ofTruths is a function that answers by how many of its arguments are true.
func ofTruths(tell func(yes, all int) bool) func(args []api.Arg) api.Value {
	return func(args []api.Arg) api.Value {
		if fault, is := given.Fault(args); is {
			return fault
		}
		yes, code := countTrue(args)
		if code != api.CodeNone {
			return value.Err(code)
		}
		return value.Truth(tell(yes, len(args)))
	}
}

// countTrue is how many arguments are true, or the first code that comes of taking each for a truth.
func countTrue(args []api.Arg) (int, api.Code) {
	yes := 0
	for _, a := range args {
		is, code := value.AsBool(a.Value)
		if code != api.CodeNone {
			return 0, code
		}
		if is {
			yes++
		}
	}
	return yes, api.CodeNone
}

func allTrue(yes, all int) bool { return yes == all }

func anyTrue(yes, _ int) bool { return yes > 0 }

func oddTrue(yes, _ int) bool { return yes%2 == 1 }
