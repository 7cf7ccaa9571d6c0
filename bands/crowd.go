package bands

import (
	"slices"

	"oriel/api"
	"oriel/lists"
	"oriel/order"
)

// looker is a cell with the rectangles that it has, by Top, Left, Bottom, Right.
type looker struct {
	cell  api.Cell
	rects []api.Rect
}

// add gives a looker a rectangle, and tells whether it had it not.
func (l *looker) add(r api.Rect) bool {
	i, is := slices.BinarySearchFunc(l.rects, r, order.Rects)
	if is {
		return false
	}
	l.rects = slices.Insert(l.rects, i, r)
	return true
}

// remove takes a rectangle from a looker, and tells whether it had it.
func (l *looker) remove(r api.Rect) bool {
	i, is := slices.BinarySearchFunc(l.rects, r, order.Rects)
	if !is {
		return false
	}
	l.rects = lists.Without(l.rects, i)
	return true
}

// crowd is the lookers that have a rectangle at some rows, row by row of their cells.
type crowd []seat

// seat is a looker, and how many of its rectangles are at those rows: without one it is not there.
type seat struct {
	who   *looker
	count int
}

// find is the place of a cell's looker, or the one at which it would stand, and whether it is there.
func (k crowd) find(by api.Cell) (int, bool) {
	return slices.BinarySearchFunc(k, by, func(s seat, by api.Cell) int { return order.Cells(s.who.cell, by) })
}

// get is a cell's looker, nil if it is not there.
func (k crowd) get(by api.Cell) *looker {
	i, is := k.find(by)
	if !is {
		return nil
	}
	return k[i].who
}

// join counts one more rectangle of a looker.
func (k *crowd) join(who *looker) {
	i, is := k.find(who.cell)
	if !is {
		*k = slices.Insert(*k, i, seat{who: who})
	}
	(*k)[i].count++
}

// leave counts one rectangle less of a looker that is there.
func (k *crowd) leave(who *looker) {
	i, _ := k.find(who.cell)
	(*k)[i].count--
	if (*k)[i].count == 0 {
		*k = lists.Without(*k, i)
	}
}
