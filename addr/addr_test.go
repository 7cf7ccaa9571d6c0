package addr

import (
	"math"
	"testing"

	"oriel/api"
)

// P3.1: which cells may be.
func TestMay(t *testing.T) {
	for _, c := range goodCells() {
		if !May(c) {
			t.Errorf("May(%v) = false", c)
		}
	}
	for _, c := range wrongCells() {
		if May(c) {
			t.Errorf("May(%v) = true", c)
		}
	}
}

// P3.1: which rectangles may be, held against the chapter's sentence.
func TestMayRect(t *testing.T) {
	for _, r := range []api.Rect{rect(1, 1, 1, 1), rect(1, 1, 4096, 256), rect(4096, 256, 4096, 256), rect(2, 2, 3, 2), rect(2, 2, 2, 3)} {
		if !MayRect(r) {
			t.Errorf("MayRect(%v) = false", r)
		}
	}
	for _, r := range []api.Rect{{}, rect(2, 2, 1, 2), rect(2, 2, 2, 1), rect(2, 1, 1, 2), rect(0, 1, 1, 1), rect(1, 0, 1, 1), rect(1, 1, 4097, 1), rect(1, 1, 1, 257), rect(4097, 1, 4097, 1), rect(1, 257, 1, 257)} {
		if MayRect(r) {
			t.Errorf("MayRect(%v) = true", r)
		}
	}
	for _, r := range someRects() {
		want := r.Top >= 1 && r.Top <= r.Bottom && r.Bottom <= 4096 && r.Left >= 1 && r.Left <= r.Right && r.Right <= 256
		if MayRect(r) != want {
			t.Errorf("MayRect(%v) = %v", r, !want)
		}
	}
}

// P3.3: the edges of a rectangle are in it, what stands beside them is not.
func TestInEdges(t *testing.T) {
	r := rect(3, 5, 7, 6)
	for row := 2; row <= 8; row++ {
		for col := 4; col <= 7; col++ {
			want := row != 2 && row != 8 && col != 4 && col != 7
			if In(r, cell(row, col)) != want {
				t.Errorf("In(%v, {%d %d}) = %v", r, row, col, !want)
			}
		}
	}
	for _, c := range goodCells() {
		if !In(rect(1, 1, 4096, 256), c) || !In(rect(c.Row, c.Col, c.Row, c.Col), c) {
			t.Errorf("%v is not in the whole sheet, or not in itself", c)
		}
	}
}

// P3.3: In of any numbers, also of rectangles and cells that may not be.
func TestInAny(t *testing.T) {
	all := rect(math.MinInt, math.MinInt, math.MaxInt, math.MaxInt)
	ends := []int{math.MinInt, math.MinInt + 1, -1, 0, 1, math.MaxInt - 1, math.MaxInt}
	for _, c := range cross(ends, ends) {
		if !In(all, c) {
			t.Errorf("In(everything, %v) = false", c)
		}
		if In(rect(math.MaxInt, math.MaxInt, math.MinInt, math.MinInt), c) {
			t.Errorf("In(nothing, %v) = true", c)
		}
		if In(api.Rect{}, c) != (c == api.Cell{}) {
			t.Errorf("In(the zero one, %v) = %v", c, c != api.Cell{})
		}
	}
	few := []int{math.MinInt, 0, math.MaxInt}
	for _, first := range cross(few, few) {
		for _, last := range cross(few, few) {
			for _, c := range cross(ends, ends) {
				r := rect(first.Row, first.Col, last.Row, last.Col)
				want := !(c.Row < r.Top) && !(c.Row > r.Bottom) && !(c.Col < r.Left) && !(c.Col > r.Right)
				if In(r, c) != want {
					t.Errorf("In(%v, %v) = %v", r, c, !want)
				}
			}
		}
	}
}

// orderCells are cells in no order, such that may be and such with numbers at both ends of their range.
func orderCells() []api.Cell {
	list := []int{math.MaxInt, 1, 256, math.MinInt, 0, 257, -1, math.MinInt + 1}
	return cross(list, list)
}

// P3.3: Before, by the row and then by the column, of any numbers.
func TestBefore(t *testing.T) {
	for _, c := range []struct {
		a, b api.Cell
		want bool
	}{
		{cell(1, 9), cell(2, 1), true},
		{cell(2, 1), cell(1, 9), false},
		{cell(2, 1), cell(2, 1), false},
		{cell(2, 1), cell(2, 2), true},
		{cell(2, 2), cell(2, 1), false},
		{cell(4095, 256), cell(4096, 1), true},
		{cell(math.MinInt, math.MaxInt), cell(math.MaxInt, math.MinInt), true},
		{cell(math.MaxInt, math.MinInt), cell(math.MinInt, math.MaxInt), false},
		{cell(0, math.MinInt), cell(0, math.MaxInt), true},
		{cell(0, math.MaxInt), cell(0, math.MinInt), false},
		{cell(math.MaxInt, math.MaxInt), cell(math.MaxInt, math.MaxInt), false},
	} {
		if Before(c.a, c.b) != c.want {
			t.Errorf("Before(%v, %v) = %v", c.a, c.b, !c.want)
		}
	}
}

// P3.6: of two unlike cells just one stands ahead, of a cell and itself none.
func TestOrderOfTwo(t *testing.T) {
	for _, a := range append(orderCells(), goodCells()...) {
		for _, b := range append(orderCells(), goodCells()...) {
			if unlike := a != b; unlike != (Before(a, b) != Before(b, a)) {
				t.Errorf("Before(%v, %v) = %v, and the other way %v", a, b, Before(a, b), Before(b, a))
			}
			if Before(a, b) && Before(b, a) {
				t.Errorf("%v and %v stand ahead of each other", a, b)
			}
		}
	}
}

// P3.6: what stands ahead of what stands ahead of a cell stands ahead of it.
func TestOrderOfThree(t *testing.T) {
	for _, list := range [][]api.Cell{orderCells(), goodCells()} {
		for _, a := range list {
			for _, b := range list {
				for _, c := range list {
					if Before(a, b) && Before(b, c) && !Before(a, c) {
						t.Fatalf("%v is ahead of %v, this ahead of %v", a, b, c)
					}
				}
			}
		}
	}
}

// P3.4: Span, whichever way the cells stand to each other.
func TestSpan(t *testing.T) {
	for _, c := range []struct {
		a, b api.Cell
		want api.Rect
	}{
		{cell(3, 1), cell(1, 2), rect(1, 1, 3, 2)},
		{cell(1, 1), cell(3, 2), rect(1, 1, 3, 2)},
		{cell(1, 2), cell(3, 1), rect(1, 1, 3, 2)},
		{cell(3, 2), cell(1, 1), rect(1, 1, 3, 2)},
		{cell(2, 2), cell(2, 2), rect(2, 2, 2, 2)},
		{cell(1, 1), cell(4096, 256), rect(1, 1, 4096, 256)},
		{cell(4096, 1), cell(1, 256), rect(1, 1, 4096, 256)},
	} {
		if got := Span(c.a, c.b); got != c.want {
			t.Errorf("Span(%v, %v) = %v; want %v", c.a, c.b, got, c.want)
		}
	}
}

// P3.4: Span of a cell that may not be, on either side and on both.
func TestSpanWrong(t *testing.T) {
	for _, wrong := range wrongCells() {
		for _, other := range []api.Cell{cell(1, 1), cell(4096, 256), wrong} {
			if Span(wrong, other) != (api.Rect{}) || Span(other, wrong) != (api.Rect{}) {
				t.Errorf("Span of %v and %v = %v, %v", wrong, other, Span(wrong, other), Span(other, wrong))
			}
		}
	}
}

// P3.7: Span may be, has both cells, and is told alike from either side.
func TestSpanHasBoth(t *testing.T) {
	for _, a := range goodCells() {
		for _, b := range goodCells() {
			r := Span(a, b)
			if !MayRect(r) || !In(r, a) || !In(r, b) || r != Span(b, a) {
				t.Errorf("Span(%v, %v) = %v", a, b, r)
			}
		}
	}
}

// P3.7: each rectangle that may be and has both cells has all of Span.
func TestSpanIsLeast(t *testing.T) {
	rows, cols := []int{1, 2, 3, 4095, 4096}, []int{1, 2, 3, 255, 256}
	cells := cross(rows, cols)
	var rects []api.Rect
	for _, first := range cells {
		for _, last := range cells {
			if r := rect(first.Row, first.Col, last.Row, last.Col); MayRect(r) {
				rects = append(rects, r)
			}
		}
	}
	for _, a := range cells {
		for _, b := range cells {
			s := Span(a, b)
			for _, r := range rects {
				if In(r, a) && In(r, b) && (s.Top < r.Top || s.Left < r.Left || s.Bottom > r.Bottom || s.Right > r.Right) {
					t.Errorf("Span(%v, %v) = %v, but %v has both", a, b, s, r)
				}
			}
		}
	}
}

// counts are numbers of rows or columns above 0.
func counts() []int {
	return []int{1, 2, 3, 255, 256, 257, 4095, 4096, 4097, 1 << 31, 1 << 32, 1 << 62, math.MaxInt - 4096, math.MaxInt - 1, math.MaxInt}
}

// farthest is the last of so many from first on, stepped to one by one.
func farthest(first, count, edge int) int {
	last := first
	for count > 1 && last < edge {
		last++
		count--
	}
	return last
}

// P3.4: Cut, of all that fits and of what lies beyond the sheet.
func TestCut(t *testing.T) {
	for _, at := range goodCells() {
		for _, rows := range counts() {
			for _, cols := range counts() {
				want := rect(at.Row, at.Col, farthest(at.Row, rows, 4096), farthest(at.Col, cols, 256))
				if got := Cut(at, rows, cols); got != want || !MayRect(got) {
					t.Fatalf("Cut(%v, %d, %d) = %v; want %v", at, rows, cols, got, want)
				}
			}
		}
	}
}

// P3.4: the chapter's examples of Cut, and the sheet's last cell.
func TestCutExamples(t *testing.T) {
	for _, c := range []struct {
		at         api.Cell
		rows, cols int
		want       api.Rect
	}{
		{cell(4095, 255), 3, 1, rect(4095, 255, 4096, 255)},
		{cell(1, 1), 1 << 62, 1 << 62, rect(1, 1, 4096, 256)},
		{cell(1, 1), 4096, 256, rect(1, 1, 4096, 256)},
		{cell(1, 1), 4095, 255, rect(1, 1, 4095, 255)},
		{cell(2, 3), 4, 5, rect(2, 3, 5, 7)},
		{cell(2, 2), 1, 1, rect(2, 2, 2, 2)},
		{cell(4096, 256), math.MaxInt, math.MaxInt, rect(4096, 256, 4096, 256)},
	} {
		if got := Cut(c.at, c.rows, c.cols); got != c.want {
			t.Errorf("Cut(%v, %d, %d) = %v; want %v", c.at, c.rows, c.cols, got, c.want)
		}
	}
}

// P3.4: Cut from a cell that may not be, and of no rows or columns.
func TestCutWrong(t *testing.T) {
	for _, at := range wrongCells() {
		for _, n := range counts() {
			if got := Cut(at, n, n); got != (api.Rect{}) {
				t.Errorf("Cut(%v, %d, %d) = %v", at, n, n, got)
			}
		}
	}
	for _, at := range goodCells() {
		for _, none := range []int{0, -1, -4096, math.MinInt + 1, math.MinInt} {
			for _, n := range append(counts(), none) {
				if got := Cut(at, none, n); got != (api.Rect{}) {
					t.Errorf("Cut(%v, %d, %d) = %v", at, none, n, got)
				}
				if got := Cut(at, n, none); got != (api.Rect{}) {
					t.Errorf("Cut(%v, %d, %d) = %v", at, n, none, got)
				}
			}
		}
	}
}
