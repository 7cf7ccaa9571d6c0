package aggs

import (
	"slices"

	"oriel/api"
	"oriel/given"
	"oriel/order"
	"oriel/value"
)

// rows is how many rows a rectangle has.
func rows(r api.Rect) int { return r.Bottom - r.Top + 1 }

// cols is how many columns a rectangle has.
func cols(r api.Rect) int { return r.Right - r.Left + 1 }

// oneSize tells whether two rectangles have as many rows, and as many columns.
func oneSize(a, b api.Rect) bool { return rows(a) == rows(b) && cols(a) == cols(b) }

// isLine tells whether a rectangle is one row or one column.
func isLine(r api.Rect) bool { return rows(r) == 1 || cols(r) == 1 }

// has is what a cell of a rectangle has: Blank, if there is no entry of it.
func has(a api.Arg, c api.Cell) api.Value {
	at, found := slices.BinarySearchFunc(a.Entries, c, rowByRow)
	if !found {
		return api.Value{}
	}
	return a.Entries[at].Value
}

// rowByRow tells whether an entry stands ahead of a cell, at it, or behind it.
func rowByRow(e api.Entry, c api.Cell) int { return order.Cells(e.Cell, c) }

// moved is the cell that lies in one rectangle as a cell lies in another.
func moved(c api.Cell, from, to api.Rect) api.Cell {
	return api.Cell{Row: c.Row - from.Top + to.Top, Col: c.Col - from.Left + to.Left}
}

// countRows is how many rows a rectangle has.
func countRows(c call) api.Value { return counted(rows(c.args[0].Rect)) }

// countCols is how many columns a rectangle has.
func countCols(c call) api.Value { return counted(cols(c.args[0].Rect)) }

// countBlank is how many cells have Blank.
func countBlank(c call) api.Value { return counted(cellsWith(c.args[0], api.Value{})) }

// countSame is how many cells have just a value.
func countSame(c call) api.Value { return counted(cellsWith(c.args[0], c.args[1].Value)) }

// cellsWith is how many cells of a rectangle have just a value.
func cellsWith(a api.Arg, v api.Value) int {
	n := 0
	if v.Tag == api.Blank {
		n = rows(a.Rect)*cols(a.Rect) - len(a.Entries)
	}
	for _, e := range a.Entries {
		if value.Same(e.Value, v) {
			n++
		}
	}
	return n
}

// sumWhere is the exact sum of a rectangle's numbers at the places at which another one has just a value.
func sumWhere(c call) api.Value {
	where, v, of := c.args[0], c.args[1].Value, c.args[2]
	if !oneSize(where.Rect, of.Rect) {
		return value.Err(api.CodeArg)
	}
	var chosen []api.Entry
	for _, e := range of.Entries {
		if value.Same(has(where, moved(e.Cell, of.Rect, where.Rect)), v) {
			chosen = append(chosen, e)
		}
	}
	there := []api.Arg{{Many: true, Rect: of.Rect, Entries: chosen}}
	if fault, is := firstFault(there); is {
		return fault
	}
	return sum(numbersOf(there))
}

// matched is the first place of a line that has just a value.
func matched(c call) api.Value {
	v, line := c.args[0].Value, c.args[1]
	if !isLine(line.Rect) {
		return value.Err(api.CodeArg)
	}
	at, found := firstPlace(line, v)
	if !found {
		return value.Err(api.CodeMiss)
	}
	return counted(at + 1)
}

// lookedUp is what a line has at the first place at which another one has just a value.
func lookedUp(c call) api.Value {
	v, line, other := c.args[0].Value, c.args[1], c.args[2]
	if !isLine(line.Rect) || !oneSize(line.Rect, other.Rect) {
		return value.Err(api.CodeArg)
	}
	at, found := firstPlace(line, v)
	if !found {
		return value.Err(api.CodeMiss)
	}
	return given.Copied(has(other, nth(other.Rect, at)))
}

// firstPlace is how many places of a line stand ahead of the first one that has just a value, and whether there is such a one.
func firstPlace(line api.Arg, v api.Value) (int, bool) {
	entries := line.Entries
	for at := range rows(line.Rect) * cols(line.Rect) {
		var there api.Value
		// Entries stand in the order of the places: the next one is of this cell, or none is.
		if len(entries) > 0 && entries[0].Cell == nth(line.Rect, at) {
			there, entries = entries[0].Value, entries[1:]
		}
		if value.Same(there, v) {
			return at, true
		}
	}
	return 0, false
}

// nth is the cell of a line that so many places stand ahead of.
func nth(line api.Rect, ahead int) api.Cell {
	if rows(line) == 1 {
		return api.Cell{Row: line.Top, Col: line.Left + ahead}
	}
	return api.Cell{Row: line.Top + ahead, Col: line.Left}
}

// indexed is what the cell in a row and a column of a rectangle has.
func indexed(c call) api.Value {
	a, i, j := c.args[0], c.wholes[0], c.wholes[1]
	if i < 1 || i > int64(rows(a.Rect)) || j < 1 || j > int64(cols(a.Rect)) {
		return value.Err(api.CodeRange)
	}
	return given.Copied(has(a, api.Cell{Row: a.Rect.Top + int(i) - 1, Col: a.Rect.Left + int(j) - 1}))
}
