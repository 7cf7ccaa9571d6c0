package bands

import (
	"math"
	"slices"
	"testing"

	"oriel/api"
)

// P16.1, R2: rectangles that may not be are not added, whoever should have them, nor removed; nothing changes by that.
func TestWrongRects(t *testing.T) {
	empty, none := New(), &model{}
	full, m := filled(t, somePairs())
	for _, r := range wrongRects() {
		for _, by := range append(goodCells()[:20], wrongCells()[:20]...) {
			adds(t, empty, none, pair{r, by}, false)
			adds(t, full, m, pair{r, by}, false)
			removes(t, empty, none, pair{r, by}, false)
			removes(t, full, m, pair{r, by}, false)
		}
		for _, c := range around(rect(r.Top/2, r.Left/2, r.Bottom/2, r.Right/2)) {
			checkOver(t, empty, c)
		}
	}
	check(t, empty, none, goodCells())
	check(t, full, m, goodCells())
}

// P16.1, R2: cells that may not be are given nothing, whatever the rectangle; nothing changes by that.
func TestWrongCells(t *testing.T) {
	empty, none := New(), &model{}
	full, m := filled(t, somePairs())
	for _, by := range wrongCells() {
		for _, r := range []api.Rect{whole(), rect(1, 1, 1, 1), rect(63, 2, 66, 64), {}, rect(by.Row, by.Col, by.Row, by.Col)} {
			adds(t, empty, none, pair{r, by}, false)
			adds(t, full, m, pair{r, by}, false)
			removes(t, empty, none, pair{r, by}, false)
			removes(t, full, m, pair{r, by}, false)
		}
	}
	check(t, empty, none, goodCells())
	check(t, full, m, goodCells())
}

// P16.1: rectangles of all numbers at the sheet's edges and far beyond them: just those that may be are added.
func TestAnyRect(t *testing.T) {
	rows := []int{math.MinInt, -1, 0, 1, 64, 65, 4096, 4097, math.MaxInt}
	cols := []int{math.MinInt, 0, 1, 2, 256, 257, math.MaxInt}
	b, m := New(), &model{}
	for _, first := range cross(rows, cols) {
		for _, last := range cross(rows, cols) {
			p := pair{rect(first.Row, first.Col, last.Row, last.Col), cell(7, 7)}
			adds(t, b, m, p, mayRect(p.rect))
			adds(t, b, m, p, false)
		}
	}
	if want := 10 * 6; len(m.list) != want {
		t.Fatalf("%d rectangles may be; want %d", len(m.list), want)
	}
	check(t, b, m, cross(rows, cols))
	for _, first := range cross(rows, cols) {
		for _, last := range cross(rows, cols) {
			p := pair{rect(first.Row, first.Col, last.Row, last.Col), cell(7, 7)}
			removes(t, b, m, p, mayRect(p.rect))
		}
	}
	check(t, b, m, cross(rows, cols))
}

// P16.2: over cells beyond the sheet, of any numbers, nobody looks, also where the whole sheet is looked over.
func TestOverBeyond(t *testing.T) {
	b, _ := filled(t, append(somePairs(), pair{whole(), cell(3, 3)}))
	for _, c := range wrongCells() {
		checkOver(t, b, c)
	}
	for _, c := range []api.Cell{cell(0, 1), cell(1, 0), cell(4097, 1), cell(1, 257), cell(0, 0), cell(4097, 257), cell(-63, 1), cell(-64, 1), cell(4160, 1)} {
		checkOver(t, b, c)
	}
	for _, c := range goodCells() {
		if !slices.Contains(b.Over(c), cell(3, 3)) {
			t.Fatalf("Over(%v) leaves out who has the whole sheet", c)
		}
	}
}

// P16.2: the edges of each kind of rectangle hold the cell, what stands beside them does not.
func TestEdges(t *testing.T) {
	by := cell(9, 9)
	for _, r := range someRects() {
		b, _ := filled(t, []pair{{r, by}})
		for _, c := range append(around(r), goodCells()...) {
			if has(r, c) {
				checkOver(t, b, c, by)
			} else {
				checkOver(t, b, c)
			}
		}
	}
}

// P16.2: every row of the sheet, looked over from it to the next one, from the sheet's top, to its bottom, and alone.
func TestEveryRow(t *testing.T) {
	a, c, d, e := cell(1, 1), cell(1, 2), cell(2, 1), cell(2, 2)
	for row := 1; row < 4096; row++ {
		b, _ := filled(t, []pair{{rect(row, 3, row+1, 3), e}, {rect(1, 3, row, 3), a}, {rect(row+1, 3, 4096, 3), d}, {rect(row, 3, row, 3), c}})
		checkOver(t, b, cell(row, 3), a, c, e)
		checkOver(t, b, cell(row+1, 3), d, e)
		checkOver(t, b, cell(row, 2))
		checkOver(t, b, cell(row+1, 4))
		if row > 1 {
			checkOver(t, b, cell(row-1, 3), a)
		}
		if row < 4095 {
			checkOver(t, b, cell(row+2, 3), d)
		}
		b.Remove(rect(1, 3, row, 3), a)
		b.Remove(rect(row, 3, row+1, 3), e)
		checkOver(t, b, cell(row, 3), c)
		checkOver(t, b, cell(row+1, 3), d)
		if row > 1 {
			checkOver(t, b, cell(1, 3))
		}
	}
}

// P16.2: every column of the sheet, whole and alone.
func TestEveryColumn(t *testing.T) {
	b, m := New(), &model{}
	for col := 1; col <= 256; col++ {
		adds(t, b, m, pair{rect(1, col, 4096, col), cell(4096, col)}, true)
	}
	for col := 1; col <= 256; col++ {
		for _, row := range goodRows() {
			checkOver(t, b, cell(row, col), cell(4096, col))
		}
	}
	for col := 1; col <= 256; col += 2 {
		removes(t, b, m, pair{rect(1, col, 4096, col), cell(4096, col)}, true)
	}
	check(t, b, m, goodCells())
}

// lying are rectangles that lie to one another in each way: nested, overlapping, side by side, apart.
func lying() map[string][]api.Rect {
	return map[string][]api.Rect{
		"nested":       {rect(60, 2, 70, 12), rect(62, 4, 68, 10), rect(64, 6, 65, 8), rect(64, 7, 64, 7)},
		"one corner":   {rect(60, 2, 64, 6), rect(64, 6, 68, 10)},
		"other corner": {rect(60, 6, 64, 10), rect(64, 2, 68, 6)},
		"overlapping":  {rect(60, 2, 66, 8), rect(63, 5, 70, 12), rect(62, 1, 65, 12)},
		"a cross":      {rect(60, 6, 70, 7), rect(64, 2, 65, 12)},
		"side by side": {rect(60, 2, 70, 6), rect(60, 7, 70, 12)},
		"one below":    {rect(60, 2, 64, 12), rect(65, 2, 70, 12)},
		"apart":        {rect(60, 2, 62, 4), rect(67, 9, 70, 12)},
		"same top":     {rect(60, 2, 60, 12), rect(60, 2, 70, 2), rect(60, 12, 70, 12)},
		"same bottom":  {rect(60, 2, 70, 2), rect(70, 2, 70, 12), rect(66, 7, 70, 7)},
	}
}

// P16.1, P16.2: rectangles that lie to one another in any way, had by one cell, by one each, by all: each is added and removed for itself, and who has two that hold a cell is told once.
func TestLying(t *testing.T) {
	places := cross(upTo(58, 72), upTo(1, 14))
	for name, rects := range lying() {
		t.Run(name, func(t *testing.T) {
			var one, each, all []pair
			for i, r := range rects {
				one = append(one, pair{r, cell(5, 5)})
				each = append(each, pair{r, cell(9-i, 5+i)})
				for j := range rects {
					all = append(all, pair{r, cell(9-j, 5+j)})
				}
			}
			for seed, pairs := range [][]pair{one, each, all, slices.Concat(one, each, all[:1])} {
				b, m := New(), &model{}
				for _, p := range mixed(int64(seed), pairs) {
					b.Add(p.rect, p.by)
					m.add(p)
					check(t, b, m, places)
				}
				for _, p := range mixed(int64(seed+9), m.list) {
					removes(t, b, m, p, true)
					check(t, b, m, places)
				}
			}
		})
	}
}

// P16.2: each rectangle of a small part of the sheet, across the end of a band, is had by a cell of its own, and then by one cell all of them.
func TestAllRects(t *testing.T) {
	places := cross(upTo(62, 67), upTo(1, 5))
	b, m := New(), &model{}
	one, mone := New(), &model{}
	for i, first := range cross(upTo(63, 66), upTo(2, 4)) {
		for j, last := range cross(upTo(63, 66), upTo(2, 4)) {
			r := rect(first.Row, first.Col, last.Row, last.Col)
			adds(t, b, m, pair{r, cell(20-i, 1+j)}, mayRect(r))
			adds(t, one, mone, pair{r, cell(64, 3)}, mayRect(r))
		}
	}
	check(t, b, m, places)
	check(t, one, mone, places)
	for i, p := range mixed(4, m.list) {
		removes(t, b, m, p, true)
		if i%9 == 0 {
			check(t, b, m, places)
		}
	}
	for _, p := range mixed(5, mone.list) {
		removes(t, one, mone, p, true)
		check(t, one, mone, places)
	}
}
