// Package order tells in which order places stand, for those layers that put them in order or look one up; see shared/DOC.md's section 'Words', and shared/doc/16-bands.md and 17-deps.md.
package order

import (
	"cmp"

	"oriel/api"
)

// Cells is below 0, 0 or above 0, as a stands ahead of b, is b, or stands behind it: row by row. They may be of any numbers.
func Cells(a, b api.Cell) int {
	return cmp.Or(cmp.Compare(a.Row, b.Row), cmp.Compare(a.Col, b.Col))
}

// Rects is that of rectangles: by Top, then by Left, Bottom, Right.
func Rects(a, b api.Rect) int {
	return cmp.Or(cmp.Compare(a.Top, b.Top), cmp.Compare(a.Left, b.Left), cmp.Compare(a.Bottom, b.Bottom), cmp.Compare(a.Right, b.Right))
}

// Refs is that of references: by their rectangles, then those without Many first.
func Refs(a, b api.Ref) int {
	return cmp.Or(Rects(a.Rect, b.Rect), cmp.Compare(many(a), many(b)))
}

// many is 1 of a reference with Many, else 0.
func many(r api.Ref) int {
	if r.Many {
		return 1
	}
	return 0
}
