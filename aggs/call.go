package aggs

import (
	"oriel/addr"
	"oriel/api"
	"oriel/given"
	"oriel/value"
)

// The kinds of a function's places, by the chapter's letters (its i, j and k are n).
const (
	rectangle = 'r'
	single    = 'v'
	either    = 'x'
	number    = 'n'
)

// call is what a function is asked: all its arguments, those that are whole numbers as such, and how many bytes a text may have that it makes.
type call struct {
	args   []api.Arg
	wholes []int64
	most   int
}

// kind is that of a place; the last one that is named stands for all behind it.
func (f function) kind(at int) byte { return f.places[min(at, len(f.places)-1)] }

// takes tells whether a function takes so many arguments, of which these are rectangles.
func (f function) takes(rects []bool) bool {
	if len(rects) < len(f.places) || len(rects) > f.most {
		return false
	}
	for at, is := range rects {
		if kind := f.kind(at); kind != either && is != (kind == rectangle) {
			return false
		}
	}
	return true
}

// wholes are the arguments that are whole numbers, taken from the left, or the first code that comes of it.
func (f function) wholes(args []api.Arg) ([]int64, api.Code) {
	var list []int64
	for at, a := range args {
		if f.kind(at) != number {
			continue
		}
		n, code := given.Whole(a.Value)
		if code != api.CodeNone {
			return nil, code
		}
		list = append(list, n)
	}
	return list, api.CodeNone
}

// rectsOf tells which arguments are rectangles.
func rectsOf(args []api.Arg) []bool {
	rects := make([]bool, len(args))
	for i, a := range args {
		rects[i] = a.Many
	}
	return rects
}

// mayNot tells whether an argument may not be.
func mayNot(a api.Arg) bool {
	if a.Many {
		return a.Value != (api.Value{}) || !addr.MayRect(a.Rect) || !inOrder(a)
	}
	return !given.Single(a)
}

// inOrder tells whether a rectangle's entries are of cells in it, row by row, each once, with values that may be.
func inOrder(a api.Arg) bool {
	for i, e := range a.Entries {
		if !addr.In(a.Rect, e.Cell) || !value.May(e.Value) {
			return false
		}
		if i > 0 && !addr.Before(a.Entries[i-1].Cell, e.Cell) {
			return false
		}
	}
	return true
}
