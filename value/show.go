package value

import "oriel/api"

// names are the names of codes, by their numbers; CodeNone has no name.
var names = [...]string{
	api.CodeCycle: "#CYCLE!",
	api.CodeNum:   "#NUM!",
	api.CodeDiv:   "#DIV!",
	api.CodeType:  "#TYPE!",
	api.CodeRange: "#RANGE!",
	api.CodeMiss:  "#MISS!",
	api.CodeLong:  "#LONG!",
	api.CodeArg:   "#ARG!",
}

// Name is a code's name.
func Name(c api.Code) string {
	if !isCode(c) {
		return ""
	}
	return names[c]
}

// Named is the code of a name.
func Named(s string) (api.Code, bool) {
	for c := api.CodeCycle; c <= api.CodeArg; c++ {
		if Name(c) == s {
			return c, true
		}
	}
	return api.CodeNone, false
}

// Show writes a value.
func Show(v api.Value) string {
	if v.Tag == api.Fault && May(v) {
		return Name(v.Code)
	}
	text, _ := AsText(v)
	return text
}
