package store

import (
	"math"
	"testing"

	"oriel/api"
	"oriel/content"
)

// P15.1, P15.2, R2: cells that may not be are refused, have nothing, and change nothing.
func TestWrongCells(t *testing.T) {
	empty, x := New(), some(0)
	full, m := filled(t, goodCells())
	for _, c := range wrongCells() {
		for _, s := range []*Store{empty, full} {
			count := s.Count()
			if got := s.Put(c, x); got != api.ErrAddr {
				t.Fatalf("Put(%v) = %d", c, got)
			}
			if got := s.Drop(c); got != api.ErrAddr {
				t.Fatalf("Drop(%v) = %d", c, got)
			}
			if s.Get(c) != nil || s.Count() != count {
				t.Fatalf("%v: Get %v, Count %d; want nil, %d", c, s.Get(c), s.Count(), count)
			}
		}
	}
	checkAll(t, full, m)
	checkAll(t, empty, &model{})
	checkWalk(t, empty, everything(), nil)
}

// P15.1, R1, R2: no content is told ahead of a wrong cell, and changes nothing.
func TestNilContent(t *testing.T) {
	empty := New()
	full, m := filled(t, goodCells())
	for _, s := range []*Store{empty, full} {
		for _, c := range append(wrongCells(), goodCells()...) {
			count, says := s.Count(), s.Get(c)
			if got := s.Put(c, nil); got != api.ErrArg {
				t.Fatalf("Put(%v, nil) = %d", c, got)
			}
			if s.Count() != count || s.Get(c) != says {
				t.Fatalf("Put(%v, nil): Count %d, Get %v; want %d, %v", c, s.Count(), s.Get(c), count, says)
			}
		}
	}
	checkAll(t, full, m)
	checkAll(t, empty, &model{})
}

// P15.1 to P15.3: the four corners of the sheet, each alone and all together.
func TestCorners(t *testing.T) {
	corners := cross([]int{1, 4096}, []int{1, 256})
	for _, c := range corners {
		s, _ := filled(t, []api.Cell{c})
		for _, other := range corners {
			if (s.Get(other) != nil) != (other == c) {
				t.Errorf("%v is put: Get(%v) is wrong", c, other)
			}
		}
		for _, r := range []api.Rect{whole(), everything(), rect(c.Row, c.Col, c.Row, c.Col), rect(c.Row, 1, c.Row, 256), rect(1, c.Col, 4096, c.Col)} {
			checkWalk(t, s, r, []api.Cell{c})
			checkNext(t, s, r, c, api.Cell{}, false)
		}
		checkWalk(t, s, rect(2, 1, 4095, 256), nil)
		checkWalk(t, s, rect(1, 2, 4096, 255), nil)
	}
	s, _ := filled(t, corners)
	checkWalk(t, s, whole(), corners)
	checkWalk(t, s, rect(1, 1, 1, 256), corners[:2])
	checkWalk(t, s, rect(4096, 1, 4096, 256), corners[2:])
	checkWalk(t, s, rect(1, 256, 4096, 256), []api.Cell{corners[1], corners[3]})
	checkWalk(t, s, rect(2, 1, 4096, 255), corners[2:3])
}

// P15.3: the last row of each chunk and the first of the next one, whichever of both has a content, and however large the chunks are.
func TestRowsMeet(t *testing.T) {
	for row := 1; row < 4096; row++ {
		upper, lower := cell(row, 256), cell(row+1, 1)
		both := rect(row, 1, row+1, 256)
		s, m := filled(t, []api.Cell{lower, upper})
		checkWalk(t, s, both, []api.Cell{upper, lower})
		checkWalk(t, s, whole(), []api.Cell{upper, lower})
		checkWalk(t, s, rect(row, 1, row, 256), []api.Cell{upper})
		checkWalk(t, s, rect(row+1, 1, row+1, 256), []api.Cell{lower})
		checkNext(t, s, both, upper, lower, true)
		drops(t, s, m, upper, api.OK)
		checkWalk(t, s, both, []api.Cell{lower})
		checkNext(t, s, rect(row, 1, row, 256), api.Cell{}, api.Cell{}, false)
		puts(t, s, m, upper, some(1), api.OK)
		drops(t, s, m, lower, api.OK)
		checkWalk(t, s, both, []api.Cell{upper})
		checkNext(t, s, both, upper, api.Cell{}, false)
	}
}

// P15.3: rectangles of any numbers, behind cells of any numbers: just as the list tells.
func TestNextAny(t *testing.T) {
	s, m := filled(t, []api.Cell{cell(1, 1), cell(1, 256), cell(2, 7), cell(64, 7), cell(65, 7), cell(2048, 128), cell(4096, 1), cell(4096, 256)})
	rows := []int{math.MinInt, -4096, 0, 1, 2, 64, 65, 4096, 4097, math.MaxInt}
	cols := []int{math.MinInt, 0, 1, 7, 8, 256, 257, math.MaxInt}
	afters := cross([]int{math.MinInt, -1, 0, 1, 2, 64, 4096, 4097, math.MaxInt}, []int{math.MinInt, 0, 1, 7, 255, 256, 257, math.MaxInt - 1, math.MaxInt})
	for _, first := range cross(rows, cols) {
		for _, last := range cross(rows, cols) {
			r := rect(first.Row, first.Col, last.Row, last.Col)
			for _, after := range afters {
				want, is := m.next(r, after)
				checkNext(t, s, r, after, want, is)
			}
		}
	}
}

// P15.3: rectangles that are turned round, by their rows, their columns or both, have no cells.
func TestTurnedRound(t *testing.T) {
	s, _ := filled(t, goodCells())
	for _, r := range []api.Rect{rect(4096, 1, 1, 256), rect(1, 256, 4096, 1), rect(4096, 256, 1, 1), rect(2, 1, 1, 256), rect(1, 2, 4096, 1), rect(math.MaxInt, math.MaxInt, math.MinInt, math.MinInt), rect(math.MaxInt, 1, math.MinInt, 256), rect(1, math.MaxInt, 4096, math.MinInt), rect(65, 1, 64, 256)} {
		checkWalk(t, s, r, nil)
		checkNext(t, s, r, cell(math.MinInt, math.MinInt), api.Cell{}, false)
	}
}

// P15.3: of a rectangle that lies partly beyond the sheet the cells on it are told, of one wholly beyond it none.
func TestBeyond(t *testing.T) {
	s, m := filled(t, goodCells())
	for _, r := range []api.Rect{everything(), rect(0, 0, 4097, 257), rect(-5, -5, 5000, 5000), rect(math.MinInt, 1, math.MaxInt, 256), rect(1, math.MinInt, 4096, math.MaxInt)} {
		checkWalk(t, s, r, goodCells())
		checkNext(t, s, r, cell(math.MinInt, math.MinInt), cell(1, 1), true)
		checkNext(t, s, r, cell(4096, 255), cell(4096, 256), true)
		checkNext(t, s, r, cell(4096, 256), api.Cell{}, false)
	}
	for _, r := range []api.Rect{rect(-3, -3, 2, 2), rect(4095, 255, 9999, 9999), rect(math.MinInt, math.MinInt, 64, 26), rect(65, 27, math.MaxInt, math.MaxInt), rect(64, -1, 64, 300)} {
		checkWalk(t, s, r, m.in(r))
	}
	for _, r := range []api.Rect{{}, rect(0, 1, 0, 256), rect(1, 0, 4096, 0), rect(4097, 1, 4097, 256), rect(1, 257, 4096, 257), rect(-9, -9, 0, 0), rect(4097, 257, math.MaxInt, math.MaxInt), rect(math.MinInt, math.MinInt, math.MinInt, math.MinInt), rect(math.MaxInt, math.MaxInt, math.MaxInt, math.MaxInt), rect(math.MinInt, 1, -1, 256)} {
		checkWalk(t, s, r, nil)
		checkNext(t, s, r, cell(math.MinInt, math.MinInt), api.Cell{}, false)
	}
}

// P15.3: after stands ahead of the rectangle, beside it, in it, at its end, behind it, beyond the sheet.
func TestAfter(t *testing.T) {
	r := rect(63, 3, 66, 5)
	cells := cross([]int{63, 64, 65, 66}, []int{3, 4, 5})
	around := cross([]int{1, 62, 63, 64, 65, 66, 67, 4096}, []int{1, 2, 6, 256})
	s, _ := filled(t, append(append([]api.Cell{}, around...), cells...))
	for _, c := range []struct {
		after, want api.Cell
		is          bool
	}{
		{cell(0, 0), cell(63, 3), true}, {cell(1, 1), cell(63, 3), true}, {cell(62, 256), cell(63, 3), true}, {cell(62, 4), cell(63, 3), true}, {cell(63, 2), cell(63, 3), true}, {cell(63, math.MinInt), cell(63, 3), true},
		{cell(63, 3), cell(63, 4), true}, {cell(63, 4), cell(63, 5), true}, {cell(63, 5), cell(64, 3), true}, {cell(63, 6), cell(64, 3), true}, {cell(63, 256), cell(64, 3), true}, {cell(63, 257), cell(64, 3), true}, {cell(63, math.MaxInt), cell(64, 3), true},
		{cell(64, 0), cell(64, 3), true}, {cell(64, 1), cell(64, 3), true}, {cell(64, 5), cell(65, 3), true}, {cell(65, 4), cell(65, 5), true}, {cell(65, math.MaxInt), cell(66, 3), true}, {cell(66, 4), cell(66, 5), true},
		{cell(66, 5), cell(0, 0), false}, {cell(66, 6), cell(0, 0), false}, {cell(67, 0), cell(0, 0), false}, {cell(67, math.MinInt), cell(0, 0), false}, {cell(4096, 256), cell(0, 0), false}, {cell(4097, 1), cell(0, 0), false},
		{cell(math.MaxInt, math.MaxInt), cell(0, 0), false}, {cell(math.MaxInt, math.MinInt), cell(0, 0), false}, {cell(math.MinInt, math.MaxInt), cell(63, 3), true}, {cell(math.MinInt, math.MinInt), cell(63, 3), true}, {cell(-1, math.MaxInt), cell(63, 3), true},
	} {
		checkNext(t, s, r, c.after, c.want, c.is)
	}
}

// P15.3: after need have no content of its own, and one that it has is not told again.
func TestAfterWithout(t *testing.T) {
	s, m := filled(t, []api.Cell{cell(10, 10), cell(10, 12), cell(12, 1)})
	checkNext(t, s, whole(), cell(10, 11), cell(10, 12), true)
	checkNext(t, s, whole(), cell(11, 256), cell(12, 1), true)
	drops(t, s, m, cell(10, 10), api.OK)
	checkNext(t, s, whole(), cell(10, 10), cell(10, 12), true)
	drops(t, s, m, cell(10, 12), api.OK)
	checkNext(t, s, whole(), cell(10, 10), cell(12, 1), true)
	checkNext(t, s, whole(), cell(12, 1), api.Cell{}, false)
}

// P15.2: Count behind each call, also behind those that are refused or find nothing.
func TestCount(t *testing.T) {
	s, x := New(), &content.Content{}
	for _, c := range []struct {
		call func()
		want int
	}{
		{func() {}, 0}, {func() { s.Drop(cell(1, 1)) }, 0}, {func() { s.Put(cell(1, 1), nil) }, 0}, {func() { s.Put(cell(0, 0), x) }, 0},
		{func() { s.Put(cell(1, 1), x) }, 1}, {func() { s.Put(cell(1, 1), x) }, 1}, {func() { s.Put(cell(1, 1), nil) }, 1}, {func() { s.Put(cell(4097, 1), x) }, 1}, {func() { s.Put(cell(1, 257), nil) }, 1},
		{func() { s.Put(cell(1, 2), x) }, 2}, {func() { s.Put(cell(4096, 256), x) }, 3}, {func() { s.Get(cell(5, 5)) }, 3}, {func() { s.Next(whole(), api.Cell{}) }, 3},
		{func() { s.Drop(cell(2, 1)) }, 3}, {func() { s.Drop(cell(1, 3)) }, 3}, {func() { s.Drop(cell(0, 1)) }, 3}, {func() { s.Drop(cell(1, 1)) }, 2}, {func() { s.Drop(cell(1, 1)) }, 2},
		{func() { s.Drop(cell(4096, 256)) }, 1}, {func() { s.Drop(cell(1, 2)) }, 0}, {func() { s.Drop(cell(1, 2)) }, 0}, {func() { s.Put(cell(1, 2), x) }, 1},
	} {
		c.call()
		if s.Count() != c.want {
			t.Fatalf("Count = %d; want %d", s.Count(), c.want)
		}
	}
}
