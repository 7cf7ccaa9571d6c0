package store

import (
	"math/rand"
	"testing"

	"oriel/api"
	"oriel/content"
)

// The chapter's examples, in their order.
func TestExamples(t *testing.T) {
	s, x, y := New(), some(1), some(2)
	if s.Put(cell(2, 3), x) != api.OK || s.Put(cell(1, 5), y) != api.OK || s.Count() != 2 {
		t.Error("two contents are put")
	}
	checkNext(t, s, whole(), cell(0, 0), cell(1, 5), true)
	checkNext(t, s, whole(), cell(1, 5), cell(2, 3), true)
	checkNext(t, s, whole(), cell(2, 3), api.Cell{}, false)
	checkNext(t, s, rect(2, 1, 2, 2), cell(0, 0), api.Cell{}, false)
	if s.Put(cell(0, 1), x) != api.ErrAddr || s.Put(cell(1, 1), nil) != api.ErrArg || s.Drop(cell(1, 257)) != api.ErrAddr {
		t.Error("refusals")
	}
	if s.Get(cell(2, 3)) != x || s.Drop(cell(2, 3)) != api.OK || s.Drop(cell(2, 3)) != api.OK || s.Get(cell(2, 3)) != nil || s.Count() != 1 {
		t.Error("a content is dropped")
	}
	if s.Get(cell(1, 5)) != y {
		t.Error("the other one is gone")
	}
}

// P15.1, P15.2, P15.3: a new store has no contents.
func TestNew(t *testing.T) {
	s := New()
	if s == nil || s.Count() != 0 {
		t.Fatal("a new store has contents")
	}
	for _, c := range goodCells() {
		if s.Get(c) != nil {
			t.Errorf("Get(%v) of a new store is a content", c)
		}
		checkNext(t, s, whole(), c, api.Cell{}, false)
		checkNext(t, s, rect(c.Row, c.Col, c.Row, c.Col), api.Cell{}, api.Cell{}, false)
	}
	checkNext(t, s, everything(), api.Cell{}, api.Cell{}, false)
	checkWalk(t, s, whole(), nil)
}

// P15.1, P15.2: a cell has what was put there last; the pointer that is got is the one that was put.
func TestPutOver(t *testing.T) {
	s, m := New(), &model{}
	for _, c := range goodCells() {
		x, y := some(7), some(7)
		puts(t, s, m, c, x, api.OK)
		count := s.Count()
		puts(t, s, m, c, y, api.OK)
		if s.Get(c) != y || s.Count() != count {
			t.Fatalf("%v: put over, it has %p, Count %d; want %p, %d", c, s.Get(c), s.Count(), y, count)
		}
		puts(t, s, m, c, y, api.OK)
		puts(t, s, m, c, x, api.OK)
		if s.Get(c) != x || s.Count() != count {
			t.Fatalf("%v does not have what it was given back", c)
		}
	}
	checkAll(t, s, m)
}

// P15.1: a content is any, also one that says nothing, and one pointer may stand in many cells.
func TestAnyContent(t *testing.T) {
	s, empty := New(), &content.Content{}
	formula := &content.Content{Text: "=A1", Is: true, Formula: api.Formula{Nodes: []api.Node{{Kind: api.NodeCell, Cell: cell(1, 1)}}}}
	for i, c := range goodCells() {
		x := empty
		if i%2 == 1 {
			x = formula
		}
		if s.Put(c, x) != api.OK || s.Get(c) != x || s.Count() != i+1 {
			t.Fatalf("Put(%v): Count %d", c, s.Count())
		}
	}
	checkWalk(t, s, whole(), goodCells())
	if s.Drop(cell(1, 1)) != api.OK || s.Get(cell(1, 1)) != nil || s.Get(cell(1, 26)) != empty || s.Get(cell(1, 2)) != formula {
		t.Error("one pointer is dropped at one cell alone")
	}
}

// P15.1, P15.2: behind a Drop a cell has no content, whether it had one or not, and may be given one again.
func TestDrop(t *testing.T) {
	s, m := New(), &model{}
	for i, c := range goodCells() {
		drops(t, s, m, c, api.OK)
		puts(t, s, m, c, some(i), api.OK)
		drops(t, s, m, c, api.OK)
		drops(t, s, m, c, api.OK)
		checkNext(t, s, rect(c.Row, c.Col, c.Row, c.Col), api.Cell{}, api.Cell{}, false)
		puts(t, s, m, c, some(i), api.OK)
		checkNext(t, s, rect(c.Row, c.Col, c.Row, c.Col), api.Cell{}, c, true)
	}
	checkAll(t, s, m)
	for _, c := range goodCells() {
		drops(t, s, m, c, api.OK)
		checkWalk(t, s, whole(), m.in(whole()))
	}
	if s.Count() != 0 {
		t.Errorf("Count = %d behind all Drops", s.Count())
	}
}

// P15.3: Next through all cells, behind each of them and from all sides of it.
func TestNext(t *testing.T) {
	s, m := filled(t, goodCells())
	for i, c := range goodCells() {
		want, is := api.Cell{}, i+1 < len(goodCells())
		if is {
			want = goodCells()[i+1]
		}
		checkNext(t, s, whole(), c, want, is)
		for _, after := range []api.Cell{cell(c.Row, c.Col-1), cell(c.Row, c.Col+1), cell(c.Row-1, 256), cell(c.Row-1, 257), cell(c.Row, 0), cell(c.Row, -7), cell(c.Row+1, 0), cell(c.Row, 300)} {
			want, is := m.next(whole(), after)
			checkNext(t, s, whole(), after, want, is)
		}
	}
}

// anyCell is a cell that may be, mostly near another one so that they meet often, at times one that may not be.
func anyCell(rnd *rand.Rand) api.Cell {
	rows, cols := goodRows(), goodCols()
	switch rnd.Intn(12) {
	case 0:
		wrong := wrongCells()
		return wrong[rnd.Intn(len(wrong))]
	case 1, 2, 3:
		return cell(1+rnd.Intn(4096), 1+rnd.Intn(256))
	case 4, 5, 6:
		return cell(60+rnd.Intn(10), 1+rnd.Intn(6))
	}
	return cell(rows[rnd.Intn(len(rows))], cols[rnd.Intn(len(cols))])
}

// anyRect is a rectangle by any two cells, mostly the right way round.
func anyRect(rnd *rand.Rand) api.Rect {
	a, b := anyCell(rnd), anyCell(rnd)
	if rnd.Intn(8) == 0 {
		return rect(a.Row, a.Col, b.Row, b.Col)
	}
	return rect(min(a.Row, b.Row), min(a.Col, b.Col), max(a.Row, b.Row), max(a.Col, b.Col))
}

// P15.1 to P15.5: whatever is asked, in whatever order, a store answers as the plain list.
func TestModel(t *testing.T) {
	for seed := range 60 {
		rnd := rand.New(rand.NewSource(int64(seed)))
		s, m := New(), &model{}
		for i := range 600 {
			c := anyCell(rnd)
			switch rnd.Intn(8) {
			case 0, 1, 2:
				x := some(i)
				puts(t, s, m, c, x, m.put(c, x))
			case 3:
				drops(t, s, m, c, m.drop(c))
			case 4:
				if len(m.list) > 0 {
					drops(t, s, m, m.list[rnd.Intn(len(m.list))].cell, api.OK)
				}
			case 5:
				if s.Get(c) != m.get(c) {
					t.Fatalf("Get(%v) is another content", c)
				}
			default:
				r := anyRect(rnd)
				want, is := m.next(r, c)
				checkNext(t, s, r, c, want, is)
			}
		}
		checkAll(t, s, m)
		for range 20 {
			r := anyRect(rnd)
			checkWalk(t, s, r, m.in(r))
		}
	}
}
