package deps

import (
	"slices"

	"oriel/addr"
	"oriel/api"
	"oriel/bands"
	"oriel/lists"
	"oriel/order"
)

// targets are references by what they refer to.
type targets struct {
	cells map[api.Cell][]api.Cell // by a cell that is referred to without Many: who does, row by row
	rects *bands.Bands            // who refers to which rectangles, with Many
}

// noTargets are none.
func noTargets() targets {
	return targets{cells: map[api.Cell][]api.Cell{}, rects: bands.New()}
}

// add notes a reference of a cell, which had it not.
func (t targets) add(ref api.Ref, by api.Cell) {
	if ref.Many {
		t.rects.Add(ref.Rect, by)
		return
	}
	c := cellOf(ref)
	i, _ := slices.BinarySearchFunc(t.cells[c], by, order.Cells)
	t.cells[c] = slices.Insert(t.cells[c], i, by)
}

// remove takes back a reference of a cell, which had it.
func (t targets) remove(ref api.Ref, by api.Cell) {
	if ref.Many {
		t.rects.Remove(ref.Rect, by)
		return
	}
	c := cellOf(ref)
	i, _ := slices.BinarySearchFunc(t.cells[c], by, order.Cells)
	t.cells[c] = lists.Without(t.cells[c], i)
	if len(t.cells[c]) == 0 {
		delete(t.cells, c)
	}
}

// who are the cells that refer to a cell by itself, and those with a rectangle in which it is.
func (t targets) who(c api.Cell) []api.Cell {
	return append(t.rects.Over(c), t.cells[c]...)
}

// edges are all references, each with the cell that has it.
func (t targets) edges() []api.Edge {
	list := t.rects.All()
	for c, cells := range t.cells {
		for _, by := range cells {
			list = append(list, api.Edge{From: by, To: refTo(c)})
		}
	}
	return list
}

// cellOf is the cell to which a reference without Many leads.
func cellOf(ref api.Ref) api.Cell { return api.Cell{Row: ref.Rect.Top, Col: ref.Rect.Left} }

// refTo is the reference without Many that leads to a cell.
func refTo(c api.Cell) api.Ref { return api.Ref{Rect: addr.Span(c, c)} }
