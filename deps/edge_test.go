package deps

import (
	"math"
	"slices"
	"testing"

	"oriel/api"
)

// P17.1, R2: a cell that may not be is refused with ErrAddr, whatever its references, wrong ones too: that error comes first. Nothing changes.
func TestWrongCells(t *testing.T) {
	empty, none := New(), &model{}
	full, m := filled(t, someGiven())
	lists := [][]api.Ref{nil, {}, {one(1, 1)}, {whole()}, goodRefs(), {{}}, {many(2, 2, 1, 1)}, {{Rect: rect(1, 1, 2, 1)}}, {one(1, 1), {}}}
	for i, c := range wrongCells() {
		for _, refs := range append(lists, these(one(c.Row, c.Col))) {
			if code := empty.Set(c, refs); code != api.ErrAddr {
				t.Fatalf("Set(%v, %s) = %d", c, begin(refs), code)
			}
			if code := full.Set(c, refs); code != api.ErrAddr {
				t.Fatalf("Set(%v, %s) = %d", c, begin(refs), code)
			}
		}
		if i%10 == 0 {
			checkEdges(t, empty)
			checkEdges(t, full, m.sorted()...)
		}
	}
	check(t, empty, none, goodCells())
	check(t, full, m, goodCells())
}

// P17.1, R2: a reference that may not be refuses all of its list with ErrArg, wherever it stands in there: nothing changes, neither of what the cell had nor of others.
func TestWrongRefs(t *testing.T) {
	empty, none := New(), &model{}
	full, m := filled(t, someGiven())
	had, hadNone := someGiven()[8].by, cell(77, 77)
	for _, wrong := range wrongRefs() {
		good := goodRefs()
		for _, refs := range [][]api.Ref{{wrong}, {wrong, one(1, 1)}, {one(3, 3), wrong}, {many(1, 1, 70, 3), wrong, one(3, 3)}, {wrong, wrong}, append(slices.Clone(good), wrong), append(these(wrong), good...)} {
			sets(t, empty, none, had, refs, api.ErrArg)
			sets(t, full, m, had, refs, api.ErrArg)
			sets(t, full, m, hadNone, refs, api.ErrArg)
		}
		for _, c := range around(rect(wrong.Rect.Top/2, wrong.Rect.Left/2, wrong.Rect.Bottom/2, wrong.Rect.Right/2)) {
			checkDirect(t, empty, c)
		}
	}
	check(t, empty, none, goodCells())
	check(t, full, m, goodCells())
	checkInside(t, full, m)
}

// P17.1: as many references as a formula may have, of which the last one alone is wrong: none of them is set.
func TestLastWrong(t *testing.T) {
	refs := manyRefs(1024)
	d, m := filled(t, []given{{cell(5, 5), refs[:700]}})
	for _, wrong := range []api.Ref{{}, {Rect: rect(1, 1, 1, 2)}, {Rect: rect(1, 1, 2, 1)}, one(0, 1), one(1, 257), many(4096, 1, 4097, 1), many(3, 3, 2, 3), many(3, 3, 3, 2)} {
		refs[1023] = wrong
		sets(t, d, m, cell(5, 5), refs, api.ErrArg)
		sets(t, d, m, cell(6, 6), refs, api.ErrArg)
		checkInside(t, d, m)
	}
	check(t, d, m, goodCells())
}

// P17.1: a rectangle of any numbers, at the sheet's edges and far beyond them: with Many it may be if chapter 3 lets it, without Many if it is one cell, too.
func TestAnyRef(t *testing.T) {
	rows := []int{math.MinInt, -1, 0, 1, 2, 64, 4096, 4097, math.MaxInt}
	cols := []int{math.MinInt, 0, 1, 2, 256, 257, math.MaxInt}
	by, ok := cell(7, 7), map[bool]int{}
	for _, first := range cross(rows, cols) {
		for _, last := range cross(rows, cols) {
			for _, is := range []bool{false, true} {
				ref := api.Ref{Many: is, Rect: rect(first.Row, first.Col, last.Row, last.Col)}
				d, want := New(), api.ErrArg
				if isRef(ref) {
					want = api.OK
					ok[is]++
				}
				if code := d.Set(by, these(ref)); code != want {
					t.Fatalf("Set of %+v = %d; want %d", ref, code, want)
				}
				if want == api.OK {
					checkEdges(t, d, api.Edge{From: by, To: ref})
				} else {
					checkEdges(t, d)
				}
			}
		}
	}
	if ok[true] != 10*6 || ok[false] != 4*3 {
		t.Errorf("with Many %d may be, without %d", ok[true], ok[false])
	}
}

// P17.1: without Many a rectangle of two cells or more may not be, be it a row, a column or a block; with Many each may be.
func TestOneCellAlone(t *testing.T) {
	for _, r := range []api.Rect{rect(1, 1, 1, 2), rect(1, 1, 2, 1), rect(1, 1, 2, 2), rect(4095, 256, 4096, 256), rect(4096, 255, 4096, 256), rect(1, 1, 4096, 256), rect(3, 1, 3, 256), rect(1, 3, 4096, 3), rect(63, 5, 65, 5)} {
		d, m := New(), &model{}
		sets(t, d, m, cell(2, 2), these(api.Ref{Rect: r}), api.ErrArg)
		sets(t, d, m, cell(2, 2), these(api.Ref{Many: true, Rect: r}), api.OK)
		sets(t, d, m, cell(2, 2), these(api.Ref{Many: true, Rect: r}, api.Ref{Rect: r}), api.ErrArg)
		check(t, d, m, around(r))
	}
}

// P17.2: Direct of cells beyond the sheet, of any numbers, tells none, also where the whole sheet is referred to.
func TestDirectBeyond(t *testing.T) {
	d, _ := filled(t, append(someGiven(), given{cell(3, 3), append(goodRefs(), whole())}))
	for _, c := range append(wrongCells(), cell(-63, 1), cell(-64, 1), cell(0, 0), cell(4097, 257)) {
		checkDirect(t, d, c)
	}
	for _, c := range goodCells() {
		if !slices.Contains(d.Direct(c), cell(3, 3)) {
			t.Fatalf("Direct(%v) leaves out who refers to the whole sheet", c)
		}
	}
}

// P17.2: the edges of a rectangle hold a cell, what stands beside them does not; a cell by itself is referred to alone.
func TestBeside(t *testing.T) {
	by := cell(9, 9)
	for _, ref := range goodRefs() {
		d := New()
		d.Set(by, these(ref))
		for _, c := range append(around(ref.Rect), goodCells()...) {
			if has(ref.Rect, c) {
				checkDirect(t, d, c, by)
			} else {
				checkDirect(t, d, c)
			}
		}
	}
}

// P17.1 to P17.3: the sheet's corners refer to one another, by themselves and as rectangles, and to the whole.
func TestCorners(t *testing.T) {
	corners := cross([]int{1, 4096}, []int{1, 256})
	d, m := New(), &model{}
	for _, by := range corners {
		var refs []api.Ref
		for _, c := range corners {
			refs = append(refs, many(c.Row, c.Col, c.Row, c.Col), one(c.Row, c.Col))
		}
		sets(t, d, m, by, append(refs, whole()), api.OK)
	}
	for _, c := range corners {
		checkDirect(t, d, c, corners...)
	}
	checkDirect(t, d, cell(2000, 100), corners...)
	for i, by := range corners {
		sets(t, d, m, by, these(one(corners[3-i].Row, corners[3-i].Col)), api.OK)
		check(t, d, m, append(goodCells(), wrongCells()...))
	}
	for i, c := range corners {
		checkDirect(t, d, c, corners[3-i])
	}
}

// manyRefs are so many references, each another one: to cells by themselves, to rectangles, to rectangles of one cell.
func manyRefs(n int) []api.Ref {
	var list []api.Ref
	for i := range n {
		row, col := 1+i*37%4096, 1+i*11%256
		switch i % 3 {
		case 0:
			list = append(list, one(row, col))
		case 1:
			list = append(list, many(row, col, min(row+i%200, 4096), min(col+i%5, 256)))
		default:
			list = append(list, many(row, col, row, col))
		}
	}
	return list
}

// P17.1: as many references as a formula may have, and more: all of them are set, in place of as many others.
func TestAsMany(t *testing.T) {
	for _, n := range []int{1023, 1024, 1025, 3000} {
		refs := manyRefs(n)
		d, m := New(), &model{}
		sets(t, d, m, cell(64, 64), refs, api.OK)
		if len(d.Edges()) != n {
			t.Fatalf("%d references are %d", n, len(d.Edges()))
		}
		check(t, d, m, goodCells())
		for _, ref := range refs {
			checkDirect(t, d, cell(ref.Rect.Bottom, ref.Rect.Right), cell(64, 64))
		}
		sets(t, d, m, cell(64, 65), mixed(1, refs), api.OK)
		sets(t, d, m, cell(64, 64), mixed(2, refs)[:n/2], api.OK)
		check(t, d, m, goodCells())
		sets(t, d, m, cell(64, 65), these(refs[n-1]), api.OK)
		sets(t, d, m, cell(64, 64), nil, api.OK)
		checkEdges(t, d, api.Edge{From: cell(64, 65), To: refs[n-1]})
	}
}

// P17.1, P17.2: as many cells as a sheet may have contents all refer to one cell, and to a rectangle of their own; set to none without order.
func TestManyCells(t *testing.T) {
	d := New()
	var rows []int
	for row := 1; row <= 4096; row++ {
		rows = append(rows, row)
	}
	at := func(row int) api.Cell { return cell(row, 1+row*37%256) }
	for _, row := range mixed(1, rows) {
		d.Set(at(row), these(one(9, 9), many(row, 5, row, 6), one(row, 200)))
	}
	if n := len(d.Direct(cell(9, 9))); n != 4096 || len(d.Edges()) != 3*4096 || !slices.Equal(d.Edges(), d.Back()) {
		t.Fatalf("%d cells refer to I9", n)
	}
	for i, row := range mixed(2, rows) {
		checkDirect(t, d, cell(row, 6), at(row))
		checkDirect(t, d, cell(row, 200), at(row))
		d.Set(at(row), nil)
		checkDirect(t, d, cell(row, 6))
		checkDirect(t, d, cell(row, 200))
		if i%64 == 0 && len(d.Direct(cell(9, 9))) != 4095-i {
			t.Fatalf("behind %d: %d cells refer to I9", i+1, len(d.Direct(cell(9, 9))))
		}
	}
	checkEdges(t, d)
}
