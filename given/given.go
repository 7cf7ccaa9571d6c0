// Package given knows of the arguments that a function is given what more than one layer asks: whether they are as many single ones as it takes, and may be, which of them is a fault, which whole number one is, and what is answered of one as it is; see shared/doc/08-nums.md.
package given

import (
	"slices"
	"strings"

	"oriel/api"
	"oriel/dec"
	"oriel/value"
)

// Count is how many arguments a function takes.
type Count struct {
	Least int
	Most  int
}

// Takes tells whether a function of single arguments takes so many, of which these are rectangles.
func (c Count) Takes(rects []bool) bool {
	return c.has(len(rects)) && !slices.Contains(rects, true)
}

// Singles tells whether arguments are as many as a function takes, and each is a single one that may be.
func (c Count) Singles(args []api.Arg) bool {
	return c.has(len(args)) && !slices.ContainsFunc(args, noSingle)
}

// has tells whether so many are neither too few nor too many.
func (c Count) has(n int) bool { return c.Least <= n && n <= c.Most }

// Single tells whether an argument is a single one that may be.
func Single(a api.Arg) bool {
	return !a.Many && value.May(a.Value) && a.Rect == (api.Rect{}) && len(a.Entries) == 0
}

// noSingle tells whether an argument is a rectangle, or may not be.
func noSingle(a api.Arg) bool { return !Single(a) }

// Fault is the first fault among single arguments, and whether there is one; rectangles that stand between them are passed over.
func Fault(args []api.Arg) (api.Value, bool) {
	for _, a := range args {
		if !a.Many && a.Value.Tag == api.Fault {
			return a.Value, true
		}
	}
	return api.Value{}, false
}

// Whole is a value taken for a whole number, or the code that comes of it.
func Whole(v api.Value) (int64, api.Code) {
	x, code := value.AsNumber(v)
	if code != api.CodeNone {
		return 0, code
	}
	n, whole := dec.Whole(x)
	if !whole {
		return 0, api.CodeArg
	}
	return n, api.CodeNone
}

// Copied is a value out of an argument, with a text of its own: what is answered shares no memory with an argument.
func Copied(v api.Value) api.Value {
	v.Str = strings.Clone(v.Str)
	return v
}
