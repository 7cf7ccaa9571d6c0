package deps

import (
	"math/rand"
	"slices"
	"testing"

	"oriel/api"
)

// The chapter's examples, in their order.
func TestExamples(t *testing.T) {
	d, b1, c1 := New(), cell(1, 2), cell(1, 3)
	if d.Set(b1, these(one(1, 1), many(1, 1, 3, 1))) != api.OK || d.Set(c1, these(many(1, 1, 2, 2))) != api.OK {
		t.Error("references are set")
	}
	checkDirect(t, d, cell(1, 1), b1, c1)
	checkDirect(t, d, cell(3, 1), b1)
	checkDirect(t, d, cell(2, 2), c1)
	checkDirect(t, d, cell(4, 4))
	all := []api.Edge{{From: b1, To: one(1, 1)}, {From: b1, To: many(1, 1, 3, 1)}, {From: c1, To: many(1, 1, 2, 2)}}
	checkEdges(t, d, all...)
	if d.Set(b1, nil) != api.OK {
		t.Error("references are taken back")
	}
	checkDirect(t, d, cell(1, 1), c1)
	if d.Set(cell(0, 1), nil) != api.ErrAddr || d.Set(b1, these(api.Ref{Rect: rect(1, 1, 2, 1)})) != api.ErrArg || d.Set(b1, these(many(2, 1, 1, 1))) != api.ErrArg {
		t.Error("what may not be is set")
	}
	checkEdges(t, d, all[2])
}

// P17.1: in a new one nobody refers to anything; to set none there is no fault, and changes nothing.
func TestNew(t *testing.T) {
	d, m := New(), &model{}
	if d == nil {
		t.Fatal("there is none")
	}
	check(t, d, m, slices.Concat(goodCells(), wrongCells()))
	for i, c := range goodCells() {
		sets(t, d, m, c, [][]api.Ref{nil, {}, make([]api.Ref, 0, 4)}[i%3], api.OK)
	}
	check(t, d, m, goodCells())
}

// P17.1 to P17.3: each reference alone: it is set, set once more, set to none, set again; Direct, Edges and Back behind each.
func TestOneRef(t *testing.T) {
	for _, ref := range goodRefs() {
		for _, by := range cross([]int{1, 64, 65, 4096}, []int{1, 256}) {
			d, m := New(), &model{}
			for _, refs := range [][]api.Ref{{ref}, {ref}, nil, {}, {ref}, nil} {
				sets(t, d, m, by, refs, api.OK)
				check(t, d, m, around(ref.Rect))
			}
			sets(t, d, m, by, these(ref), api.OK)
			checkEdges(t, d, api.Edge{From: by, To: ref})
			for _, c := range goodCells() {
				if has(ref.Rect, c) {
					checkDirect(t, d, c, by)
				} else {
					checkDirect(t, d, c)
				}
			}
		}
	}
}

// P17.1, P17.2: one reference that several cells have: each has it for itself.
func TestOneTarget(t *testing.T) {
	cells := []api.Cell{cell(64, 2), cell(1, 256), cell(65, 1), cell(4096, 256), cell(64, 1), cell(2, 1)}
	for _, ref := range goodRefs() {
		d, m := New(), &model{}
		for _, by := range cells {
			sets(t, d, m, by, these(ref), api.OK)
			check(t, d, m, around(ref.Rect))
		}
		checkDirect(t, d, cell(ref.Rect.Top, ref.Rect.Left), cell(1, 256), cell(2, 1), cell(64, 1), cell(64, 2), cell(65, 1), cell(4096, 256))
		for _, by := range cells {
			sets(t, d, m, by, nil, api.OK)
			check(t, d, m, around(ref.Rect))
		}
		checkEdges(t, d)
	}
}

// rows of references that a cell may have one behind another.
func someLists() map[string][]api.Ref {
	return map[string][]api.Ref{
		"none":               nil,
		"a cell":             these(one(2, 2)),
		"another cell":       these(one(64, 3)),
		"its rectangle":      these(many(2, 2, 2, 2)),
		"both":               these(many(2, 2, 2, 2), one(2, 2)),
		"two cells":          these(one(64, 3), one(2, 2)),
		"a rectangle":        these(many(1, 1, 3, 3)),
		"a wider one":        these(many(1, 1, 66, 3)),
		"a rectangle, cells": these(one(64, 3), many(1, 1, 3, 3), one(2, 2)),
		"rectangles":         these(many(1, 1, 3, 3), many(2, 2, 65, 3), many(1, 1, 66, 3), many(2, 2, 2, 2)),
		"the sheet":          these(whole(), one(1, 1), one(4096, 256)),
		"all":                goodRefs(),
	}
}

// P17.1: whatever a cell had, behind a Set it has just what was set: more, fewer, others, the same, none. What others have, the same references among it, stays.
func TestSetAnew(t *testing.T) {
	by, other, third := cell(2, 3), cell(2, 2), cell(66, 1)
	places := append(cross([]int{1, 2, 3, 4, 63, 64, 65, 66, 67}, []int{1, 2, 3, 4}), cell(4096, 256))
	for _, ahead := range someLists() {
		for _, behind := range someLists() {
			d, m := New(), &model{}
			sets(t, d, m, other, ahead, api.OK)
			sets(t, d, m, third, behind, api.OK)
			sets(t, d, m, by, ahead, api.OK)
			sets(t, d, m, by, behind, api.OK)
			check(t, d, m, places)
			sets(t, d, m, other, behind, api.OK)
			check(t, d, m, places)
			sets(t, d, m, third, nil, api.OK)
			sets(t, d, m, by, ahead, api.OK)
			check(t, d, m, places)
		}
	}
}

// P17.1: the order in which a list has its references is nothing to what is kept.
func TestOrderInList(t *testing.T) {
	want, m := filled(t, []given{{cell(7, 7), goodRefs()}})
	for seed := range int64(10) {
		d := New()
		d.Set(cell(7, 7), mixed(seed, goodRefs()))
		checkEdges(t, d, want.Edges()...)
		check(t, d, m, goodCells())
	}
}

// P17.1: a reference that stands in a list more than once is had once, and gone as a whole when it is set no more.
func TestTwice(t *testing.T) {
	by := cell(64, 3)
	for _, ref := range goodRefs() {
		c := cell(ref.Rect.Top, ref.Rect.Left)
		for _, refs := range [][]api.Ref{{ref, ref}, {ref, one(9, 9), ref}, {ref, many(9, 9, 9, 9), one(9, 9), ref, ref}, slices.Repeat(these(ref), 1024)} {
			d, m := New(), &model{}
			sets(t, d, m, by, refs, api.OK)
			check(t, d, m, around(ref.Rect))
			sets(t, d, m, by, refs[:1], api.OK)
			checkEdges(t, d, api.Edge{From: by, To: ref})
			checkDirect(t, d, c, by)
			sets(t, d, m, by, refs, api.OK)
			sets(t, d, m, by, these(one(8, 8)), api.OK)
			checkEdges(t, d, api.Edge{From: by, To: one(8, 8)})
			check(t, d, m, around(ref.Rect))
		}
	}
}

// P17.1, P17.3: a cell by itself, and the rectangle of just that cell, are two references; whichever is set, the other is not.
func TestCellAndItsRect(t *testing.T) {
	by := cell(9, 9)
	for _, c := range append(goodCells(), by) {
		alone, asRect := one(c.Row, c.Col), many(c.Row, c.Col, c.Row, c.Col)
		d, m := New(), &model{}
		for _, refs := range [][]api.Ref{{alone}, {asRect}, {alone, asRect}, {alone}, {asRect, alone}, {asRect}, {alone}} {
			sets(t, d, m, by, refs, api.OK)
			checkDirect(t, d, c, by)
		}
		checkEdges(t, d, api.Edge{From: by, To: alone})
		sets(t, d, m, cell(9, 10), these(asRect), api.OK)
		checkDirect(t, d, c, by, cell(9, 10))
		sets(t, d, m, by, these(asRect, alone), api.OK)
		checkEdges(t, d, api.Edge{From: by, To: alone}, api.Edge{From: by, To: asRect}, api.Edge{From: cell(9, 10), To: asRect})
		sets(t, d, m, by, nil, api.OK)
		checkDirect(t, d, c, cell(9, 10))
		sets(t, d, m, cell(9, 10), nil, api.OK)
		checkDirect(t, d, c)
	}
}

// P17.1, P17.2: a cell may refer to itself, and to a rectangle that holds it: it is one of its own Direct.
func TestItself(t *testing.T) {
	for _, c := range goodCells() {
		d, m := New(), &model{}
		up, down := cell(max(c.Row-1, 1), max(c.Col-1, 1)), cell(min(c.Row+1, 4096), min(c.Col+1, 256))
		for _, refs := range [][]api.Ref{{one(c.Row, c.Col)}, {many(c.Row, c.Col, c.Row, c.Col)}, {many(up.Row, up.Col, down.Row, down.Col)}, {whole()}, {whole(), one(c.Row, c.Col)}} {
			sets(t, d, m, c, refs, api.OK)
			checkDirect(t, d, c, c)
			check(t, d, m, around(rect(up.Row, up.Col, down.Row, down.Col)))
		}
		sets(t, d, m, c, nil, api.OK)
		checkDirect(t, d, c)
	}
}

// P17.2: who is referred to is nothing to whom it refers: a row of cells, each with the one ahead of it, each way round.
func TestRow(t *testing.T) {
	d, m := New(), &model{}
	for row := 2; row <= 200; row++ {
		sets(t, d, m, cell(row, 3), these(one(row-1, 3)), api.OK)
	}
	for row := 1; row < 200; row++ {
		checkDirect(t, d, cell(row, 3), cell(row+1, 3))
	}
	checkDirect(t, d, cell(200, 3))
	for row := 2; row <= 200; row++ {
		sets(t, d, m, cell(row, 3), these(many(row+1, 3, row+2, 4)), api.OK)
	}
	for row := 4; row <= 201; row++ {
		checkDirect(t, d, cell(row, 4), cell(row-2, 3), cell(row-1, 3))
	}
	checkDirect(t, d, cell(2, 3))
}

// anyCell is a cell that may be, mostly out of few so that they meet often, at times one that may not be.
func anyCell(rnd *rand.Rand) api.Cell {
	rows, cols := goodRows(), goodCols()
	switch rnd.Intn(40) {
	case 0:
		wrong := wrongCells()
		return wrong[rnd.Intn(len(wrong))]
	case 1, 2, 3:
		return cell(1+rnd.Intn(4096), 1+rnd.Intn(256))
	}
	if rnd.Intn(3) > 0 {
		return cell(62+rnd.Intn(5), 1+rnd.Intn(4))
	}
	return cell(rows[rnd.Intn(len(rows))], cols[rnd.Intn(len(cols))])
}

// anyRef is a reference to a cell, or to a rectangle by two of them, mostly one that may be.
func anyRef(rnd *rand.Rand) api.Ref {
	a, b := anyCell(rnd), anyCell(rnd)
	switch rnd.Intn(60) {
	case 0:
		return many(a.Row, a.Col, b.Row, b.Col)
	case 1:
		return api.Ref{Rect: rect(a.Row, a.Col, b.Row, b.Col)}
	}
	switch rnd.Intn(5) {
	case 0, 1:
		return one(a.Row, a.Col)
	case 2:
		return many(a.Row, a.Col, a.Row, a.Col)
	}
	return many(min(a.Row, b.Row), min(a.Col, b.Col), max(a.Row, b.Row), max(a.Col, b.Col))
}

// P17.1 to P17.4: whatever is asked, in whatever order, the answers are those of the plain list.
func TestModel(t *testing.T) {
	for seed := range int64(60) {
		rnd := rand.New(rand.NewSource(seed))
		d, m := New(), &model{}
		refused := 0
		for range 250 {
			by := anyCell(rnd)
			var refs []api.Ref
			for range rnd.Intn(8) {
				refs = append(refs, anyRef(rnd))
			}
			want := (&model{}).set(by, refs)
			if want != api.OK {
				refused++
			}
			sets(t, d, m, by, refs, want)
			for range 4 {
				c := anyCell(rnd)
				checkDirect(t, d, c, m.direct(c)...)
			}
		}
		if refused < 20 || refused > 200 {
			t.Fatalf("%d of 250 are refused", refused)
		}
		check(t, d, m, goodCells())
		checkInside(t, d, m)
	}
}
