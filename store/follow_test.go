package store

import (
	"math/rand"
	"slices"
	"sync"
	"testing"

	"oriel/api"
	"oriel/content"
)

// upTo are the numbers from first to last.
func upTo(first, last int) []int {
	var list []int
	for n := first; n <= last; n++ {
		list = append(list, n)
	}
	return list
}

// mixed are cells in another order.
func mixed(seed int64, cells []api.Cell) []api.Cell {
	list := slices.Clone(cells)
	rand.New(rand.NewSource(seed)).Shuffle(len(list), func(i, j int) { list[i], list[j] = list[j], list[i] })
	return list
}

// shapes are cells as many as a sheet may have contents, laid out in several ways, row by row.
func shapes() map[string][]api.Cell {
	apart := cross(upTo(1, 4096), []int{1})
	for i := range apart {
		apart[i].Col = 1 + (i*37)%256
	}
	return map[string][]api.Cell{
		"a column": cross(upTo(1, 4096), []int{1}), "the last column": cross(upTo(1, 4096), []int{256}), "the first rows": cross(upTo(1, 16), upTo(1, 256)), "the last rows": cross(upTo(4081, 4096), upTo(1, 256)),
		"a block": cross(upTo(33, 96), upTo(97, 160)), "one in each row": apart, "rows far apart": cross([]int{1, 2, 64, 65, 128, 129, 500, 1000, 1500, 2000, 2500, 3000, 3500, 4000, 4095, 4096}, upTo(1, 256)),
	}
}

// P15.4: as many cells with contents as may be: walks through the sheet and through parts of it tell just these, row by row, in whatever order they were put and dropped.
func TestWalkFull(t *testing.T) {
	for name, cells := range shapes() {
		s := New()
		for i, c := range mixed(int64(len(name)), cells) {
			if s.Put(c, some(i)) != api.OK || s.Count() != i+1 {
				t.Fatalf("%s: Put(%v), Count %d", name, c, s.Count())
			}
		}
		checkWalk(t, s, whole(), cells)
		checkWalk(t, s, everything(), cells)
		for _, r := range []api.Rect{rect(1, 1, 64, 256), rect(64, 1, 65, 256), rect(1, 1, 4096, 1), rect(1, 256, 4096, 256), rect(50, 100, 70, 130), rect(4096, 1, 4096, 256), rect(2, 2, 4095, 255), rect(100, 3, 100, 3)} {
			checkWalk(t, s, r, slices.DeleteFunc(slices.Clone(cells), func(c api.Cell) bool { return !has(r, c) }))
		}
		left := mixed(7, cells)
		for _, c := range left[:2048] {
			if s.Drop(c) != api.OK || s.Get(c) != nil {
				t.Fatalf("%s: Drop(%v)", name, c)
			}
		}
		left = left[2048:]
		slices.SortFunc(left, order)
		checkWalk(t, s, whole(), left)
		for _, c := range left {
			s.Drop(c)
		}
		checkWalk(t, s, everything(), nil)
		if s.Count() != 0 {
			t.Errorf("%s: Count = %d behind all Drops", name, s.Count())
		}
	}
}

// P15.4: a walk through each rectangle of a small part of the sheet, across the end of a chunk.
func TestWalkAllRects(t *testing.T) {
	var cells []api.Cell
	for i, c := range cross(upTo(62, 67), upTo(3, 8)) {
		if i%3 != 1 && i%7 != 2 {
			cells = append(cells, c)
		}
	}
	s, m := filled(t, mixed(3, cells))
	for _, first := range cross(upTo(61, 68), upTo(2, 9)) {
		for _, last := range cross(upTo(61, 68), upTo(2, 9)) {
			r := rect(first.Row, first.Col, last.Row, last.Col)
			checkWalk(t, s, r, m.in(r))
		}
	}
}

// P15.4: rectangles of one cell, of one row, of one column, all through the sheet.
func TestWalkThin(t *testing.T) {
	cells := mixed(5, cross(goodRows(), goodCols()))[:150]
	s, m := filled(t, cells)
	for _, c := range goodCells() {
		one := rect(c.Row, c.Col, c.Row, c.Col)
		checkWalk(t, s, one, m.in(one))
	}
	for _, row := range goodRows() {
		r := rect(row, 1, row, 256)
		checkWalk(t, s, r, m.in(r))
	}
	for col := range 258 {
		r := rect(1, col, 4096, col)
		checkWalk(t, s, r, m.in(r))
	}
}

// P15.4: every place of the sheet has a content; all are told, each once.
func TestWalkEveryPlace(t *testing.T) {
	s, x := New(), some(1)
	for row := 1; row <= 4096; row++ {
		for col := 1; col <= 256; col++ {
			if s.Put(cell(row, col), x) != api.OK {
				t.Fatalf("Put({%d %d})", row, col)
			}
		}
	}
	if s.Count() != 4096*256 {
		t.Fatalf("Count = %d", s.Count())
	}
	last := api.Cell{}
	for row := 1; row <= 4096; row++ {
		for col := 1; col <= 256; col++ {
			c, is := s.Next(whole(), last)
			if c != cell(row, col) || !is {
				t.Fatalf("behind %v: %v, %v", last, c, is)
			}
			last = c
		}
	}
	checkNext(t, s, whole(), last, api.Cell{}, false)
	checkWalk(t, s, rect(2, 2, 3, 3), cross([]int{2, 3}, []int{2, 3}))
}

// P15.3: who walks may put and drop meanwhile: Next tells what is there when it is asked.
func TestWalkMeanwhile(t *testing.T) {
	s, m := filled(t, cross(upTo(60, 69), upTo(1, 10)))
	c, is := s.Next(whole(), api.Cell{})
	told := 0
	for is {
		told++
		drops(t, s, m, c, api.OK)
		puts(t, s, m, cell(1, told), some(told), api.OK)
		if c.Col == 10 {
			drops(t, s, m, cell(c.Row+1, 1), api.OK)
		}
		want, more := m.next(rect(2, 1, 4096, 256), c)
		checkNext(t, s, rect(2, 1, 4096, 256), c, want, more)
		c, is = want, more
	}
	if told != 100-9 {
		t.Errorf("%d cells were told", told)
	}
	checkAll(t, s, m)
}

// neighbours are the cells around one, and those that stand as far from it as some chunk may be large, as far as they may be.
func neighbours(c api.Cell) []api.Cell {
	list := []api.Cell{cell(1, 1), cell(1, 256), cell(4096, 1), cell(4096, 256)}
	for _, row := range []int{-256, -64, -16, -1, 0, 1, 16, 64, 256} {
		for _, col := range []int{-64, -1, 0, 1, 64} {
			list = append(list, cell(c.Row+row, c.Col+col))
		}
	}
	slices.SortFunc(list, order)
	return slices.DeleteFunc(slices.Compact(list), func(x api.Cell) bool { return x == c || !may(x) })
}

// P15.5: what is put, put over or dropped at one cell, or refused there, changes nothing of any other, whether these have contents or not.
func TestAlone(t *testing.T) {
	for i, c := range goodCells() {
		for _, full := range []bool{false, true} {
			s, m := New(), &model{}
			for n, other := range neighbours(c) {
				if full {
					puts(t, s, m, other, some(n), api.OK)
				}
			}
			stay := func() {
				t.Helper()
				for _, other := range neighbours(c) {
					if s.Get(other) != m.get(other) {
						t.Fatalf("what is done at %v changes %v", c, other)
					}
				}
				checkAll(t, s, m)
			}
			puts(t, s, m, c, some(i), api.OK)
			stay()
			puts(t, s, m, c, some(i), api.OK)
			stay()
			puts(t, s, m, c, nil, api.ErrArg)
			stay()
			drops(t, s, m, c, api.OK)
			stay()
			drops(t, s, m, c, api.OK)
			stay()
		}
	}
}

// P15.5, P15.2: a row that had contents and has none any more is like one that never had any, and so are the rows beside it.
func TestRowEmptied(t *testing.T) {
	for _, row := range []int{1, 2, 63, 64, 65, 128, 129, 4032, 4033, 4095, 4096} {
		s, m := New(), &model{}
		beside := slices.DeleteFunc(cross([]int{row - 1, row + 1}, []int{1, 128, 256}), func(c api.Cell) bool { return !may(c) })
		for i, c := range beside {
			puts(t, s, m, c, some(i), api.OK)
		}
		for round := range 3 {
			for col := 1; col <= 256; col++ {
				puts(t, s, m, cell(row, 1+(col*77)%256), some(col), api.OK)
			}
			checkWalk(t, s, rect(row, 1, row, 256), cross([]int{row}, upTo(1, 256)))
			for col := 1; col <= 256; col++ {
				drops(t, s, m, cell(row, 1+(col*(2*round+1))%256), api.OK)
			}
			checkWalk(t, s, rect(row, 1, row, 256), nil)
			checkWalk(t, s, whole(), beside)
			checkNext(t, s, whole(), cell(row, 0), firstBehind(beside, row), firstBehind(beside, row) != api.Cell{})
			checkAll(t, s, m)
		}
	}
}

// firstBehind is the first of the cells that stand below a row, or the zero one.
func firstBehind(cells []api.Cell, row int) api.Cell {
	for _, c := range cells {
		if c.Row > row {
			return c
		}
	}
	return api.Cell{}
}

// R5: two stores know nothing of one another.
func TestTwoStores(t *testing.T) {
	a, b := New(), New()
	ma, mb := &model{}, &model{}
	for i, c := range mixed(1, goodCells()) {
		puts(t, a, ma, c, some(i), api.OK)
		if b.Get(c) != nil || b.Count() != len(mb.list) {
			t.Fatalf("%v is put into the other store", c)
		}
		checkNext(t, b, rect(c.Row, c.Col, c.Row, c.Col), api.Cell{}, api.Cell{}, false)
		drops(t, b, mb, c, api.OK)
		if a.Get(c) != ma.get(c) {
			t.Fatalf("%v is dropped from the other store", c)
		}
		if i%2 == 0 {
			puts(t, b, mb, c, some(-i), api.OK)
		}
	}
	checkAll(t, a, ma)
	checkAll(t, b, mb)
}

// R5: stores that are asked side by side, each by one hand, share nothing.
func TestSideStores(t *testing.T) {
	var all sync.WaitGroup
	shared := some(0)
	for hand := range 16 {
		all.Go(func() {
			s, own := New(), some(hand)
			cells := mixed(int64(hand), goodCells())
			for i, c := range cells {
				s.Put(c, []*content.Content{shared, own}[i%2])
			}
			if got := walk(s, whole()); !slices.Equal(got, goodCells()) {
				t.Errorf("the hand %d walks over %d cells", hand, len(got))
			}
			for i, c := range cells {
				if s.Get(c) != []*content.Content{shared, own}[i%2] || s.Drop(c) != api.OK || s.Count() != len(cells)-1-i {
					t.Errorf("the hand %d has another content at %v", hand, c)
				}
			}
		})
	}
	all.Wait()
}

// R5: what a store answers hangs on no order of Puts, nor on what it had ahead.
func TestAnyOrder(t *testing.T) {
	want, _ := filled(t, goodCells())
	for seed := range int64(10) {
		s, m := New(), &model{}
		for i, c := range mixed(seed+100, goodCells())[:200] {
			puts(t, s, m, c, some(i), api.OK)
			drops(t, s, m, c, api.OK)
		}
		for i, c := range mixed(seed, goodCells()) {
			puts(t, s, m, c, some(i), api.OK)
		}
		for _, after := range append(goodCells(), wrongCells()...) {
			for _, r := range []api.Rect{whole(), rect(60, 20, 130, 200), rect(2, 256, 4096, 256)} {
				c, is := want.Next(r, after)
				checkNext(t, s, r, after, c, is)
			}
		}
	}
}
