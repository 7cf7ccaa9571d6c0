package store

import (
	"cmp"
	"slices"

	"oriel/api"
	"oriel/content"
)

const (
	// chunkRows are as many rows as stand in a chunk.
	chunkRows = 64
	// chunkCount are as many chunks as have all rows of the sheet.
	chunkCount = (api.MaxRow-1)/chunkRows + 1
)

// chunk is so many rows, one below the other.
type chunk [chunkRows]row

// row is the spots of a row, by their columns.
type row []spot

// spot is a column with its content.
type spot struct {
	col  int
	says *content.Content
}

// split is the number of the chunk in which a row of the sheet stands, and its place in there.
func split(row int) (at, in int) { return (row - 1) / chunkRows, (row - 1) % chunkRows }

// lastRow is the last row of the sheet that stands in a chunk.
func lastRow(at int) int { return (at + 1) * chunkRows }

// empty tells whether no row of a chunk has a content.
func (k *chunk) empty() bool {
	for _, r := range k {
		if len(r) > 0 {
			return false
		}
	}
	return true
}

// find is the place of a column among the spots, or the one at which it would stand, and whether it is there.
func (r row) find(col int) (int, bool) {
	return slices.BinarySearchFunc(r, col, func(s spot, col int) int { return cmp.Compare(s.col, col) })
}

// get is the content at a column, nil if there is none.
func (r row) get(col int) *content.Content {
	i, is := r.find(col)
	if !is {
		return nil
	}
	return r[i].says
}

// first is the first column with a content from left to right, and whether there is one.
func (r row) first(left, right int) (int, bool) {
	i, _ := r.find(left)
	if i == len(r) || r[i].col > right {
		return 0, false
	}
	return r[i].col, true
}

// put lays a content at a column, and tells whether there was none.
func (r *row) put(col int, x *content.Content) bool {
	i, is := r.find(col)
	if is {
		(*r)[i].says = x
		return false
	}
	*r = slices.Insert(*r, i, spot{col, x})
	return true
}

// drop takes the content at a column away, and tells whether there was one.
func (r *row) drop(col int) bool {
	i, is := r.find(col)
	if !is {
		return false
	}
	// What is left stands in memory of its own, so that a row which had many contents keeps no room for them.
	*r = slices.Concat((*r)[:i], (*r)[i+1:])
	return true
}
