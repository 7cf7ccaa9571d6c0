package bands

import (
	"math/rand"
	"slices"
	"testing"

	"oriel/api"
)

// The chapter's examples, in their order.
func TestExamples(t *testing.T) {
	b, c4, d4 := New(), cell(4, 3), cell(4, 4)
	if !b.Add(rect(1, 1, 2, 2), d4) || b.Add(rect(1, 1, 2, 2), d4) || !b.Add(rect(1, 1, 1, 1), c4) || !b.Add(rect(2, 2, 3, 3), d4) {
		t.Error("pairs are added")
	}
	checkOver(t, b, cell(1, 1), c4, d4)
	checkOver(t, b, cell(2, 2), d4)
	checkOver(t, b, cell(3, 3), d4)
	checkOver(t, b, d4)
	checkOver(t, b, cell(0, 0))
	want := []api.Edge{{From: c4, To: api.Ref{Many: true, Rect: rect(1, 1, 1, 1)}}, {From: d4, To: api.Ref{Many: true, Rect: rect(1, 1, 2, 2)}}, {From: d4, To: api.Ref{Many: true, Rect: rect(2, 2, 3, 3)}}}
	if got := b.All(); !slices.Equal(got, want) {
		t.Errorf("All = %v", got)
	}
	if !b.Remove(rect(1, 1, 2, 2), d4) || b.Remove(rect(1, 1, 2, 2), d4) {
		t.Error("a pair is removed")
	}
	checkOver(t, b, cell(1, 1), c4)
	checkOver(t, b, cell(2, 2), d4)
	if b.Add(rect(2, 2, 1, 1), d4) || b.Add(rect(1, 1, 1, 1), cell(0, 1)) {
		t.Error("what may not be is added")
	}
}

// P16.1: in a new one no pair is there, and none can be removed.
func TestNew(t *testing.T) {
	b := New()
	if b == nil || len(b.All()) != 0 {
		t.Fatal("a new one has pairs")
	}
	for _, c := range goodCells() {
		checkOver(t, b, c)
	}
	for _, p := range somePairs() {
		removes(t, b, &model{}, p, false)
	}
	check(t, b, &model{}, goodCells())
}

// P16.1: each pair alone: it is added once, removed once, added anew; All and Over behind each.
func TestOnePair(t *testing.T) {
	for _, r := range someRects() {
		for _, by := range cross([]int{1, 64, 65, 4096}, []int{1, 256}) {
			b, m := New(), &model{}
			p := pair{r, by}
			for range 2 {
				for i, call := range []func(*testing.T, *Bands, *model, pair, bool){removes, adds, adds, removes, removes} {
					call(t, b, m, p, i == 1 || i == 3)
					check(t, b, m, around(r))
				}
			}
			adds(t, b, m, p, true)
			check(t, b, m, goodCells())
		}
	}
}

// P16.1, P16.2: one rectangle that several cells have: each has it for itself.
func TestOneRect(t *testing.T) {
	cells := []api.Cell{cell(64, 2), cell(1, 256), cell(65, 1), cell(4096, 256), cell(64, 1), cell(2, 1)}
	for _, r := range someRects() {
		b, m := New(), &model{}
		for _, by := range cells {
			adds(t, b, m, pair{r, by}, true)
			adds(t, b, m, pair{r, by}, false)
			check(t, b, m, around(r))
		}
		checkOver(t, b, cell(r.Top, r.Left), cell(1, 256), cell(2, 1), cell(64, 1), cell(64, 2), cell(65, 1), cell(4096, 256))
		for _, by := range cells {
			removes(t, b, m, pair{r, by}, true)
			removes(t, b, m, pair{r, by}, false)
			check(t, b, m, around(r))
		}
	}
}

// P16.1, P16.2: one cell that has several rectangles: each is there for itself, and the cell is told once.
func TestOneCell(t *testing.T) {
	for _, by := range []api.Cell{cell(1, 1), cell(64, 27), cell(4096, 256)} {
		b, m := New(), &model{}
		for _, r := range someRects() {
			adds(t, b, m, pair{r, by}, true)
			adds(t, b, m, pair{r, by}, false)
			check(t, b, m, around(r))
		}
		for _, c := range goodCells() {
			checkOver(t, b, c, by)
		}
		for _, r := range someRects() {
			removes(t, b, m, pair{r, by}, true)
			removes(t, b, m, pair{r, by}, false)
			check(t, b, m, around(r))
		}
	}
}

// P16.1: what is like a pair in all but one number is another pair, and is not there.
func TestNearPairs(t *testing.T) {
	p := pair{rect(63, 26, 66, 29), cell(64, 27)}
	var near []pair
	for _, d := range []int{-1, 1} {
		for i := range 6 {
			q := p
			*[]*int{&q.rect.Top, &q.rect.Left, &q.rect.Bottom, &q.rect.Right, &q.by.Row, &q.by.Col}[i] += d
			near = append(near, q)
		}
	}
	b, m := filled(t, []pair{p})
	for _, q := range near {
		removes(t, b, m, q, false)
		check(t, b, m, around(p.rect))
	}
	for _, q := range near {
		adds(t, b, m, q, true)
	}
	check(t, b, m, cross(upTo(61, 68), upTo(24, 31)))
	removes(t, b, m, p, true)
	check(t, b, m, cross(upTo(61, 68), upTo(24, 31)))
	for _, q := range near {
		removes(t, b, m, q, true)
		check(t, b, m, around(p.rect))
	}
}

// P16.2: a cell with a rectangle in itself is told over itself; the cells that have rectangles are otherwise nothing to Over.
func TestOverItself(t *testing.T) {
	b, m := New(), &model{}
	for _, c := range goodCells() {
		adds(t, b, m, pair{rect(c.Row, c.Col, c.Row, c.Col), c}, true)
	}
	for _, c := range goodCells() {
		checkOver(t, b, c, c)
	}
	check(t, b, m, cross([]int{3, 66, 4000}, []int{3, 66, 200}))
	for _, c := range goodCells() {
		removes(t, b, m, pair{rect(c.Row, c.Col, c.Row, c.Col), c}, true)
		checkOver(t, b, c)
	}
}

// anyCell is a cell that may be, mostly out of few so that they meet often, at times one that may not be.
func anyCell(rnd *rand.Rand) api.Cell {
	rows, cols := goodRows(), goodCols()
	switch rnd.Intn(12) {
	case 0:
		wrong := wrongCells()
		return wrong[rnd.Intn(len(wrong))]
	case 1, 2:
		return cell(1+rnd.Intn(4096), 1+rnd.Intn(256))
	case 3, 4, 5, 6:
		return cell(62+rnd.Intn(5), 1+rnd.Intn(4))
	}
	return cell(rows[rnd.Intn(len(rows))], cols[rnd.Intn(len(cols))])
}

// anyRect is a rectangle by any two cells, mostly the right way round.
func anyRect(rnd *rand.Rand) api.Rect {
	a, b := anyCell(rnd), anyCell(rnd)
	if rnd.Intn(8) == 0 {
		return rect(a.Row, a.Col, b.Row, b.Col)
	}
	return rect(min(a.Row, b.Row), min(a.Col, b.Col), max(a.Row, b.Row), max(a.Col, b.Col))
}

// P16.1 to P16.3: whatever is asked, in whatever order, the answers are those of the plain list.
func TestModel(t *testing.T) {
	for seed := range 60 {
		rnd := rand.New(rand.NewSource(int64(seed)))
		b, m := New(), &model{}
		for range 500 {
			p := pair{anyRect(rnd), anyCell(rnd)}
			if len(m.list) > 0 && rnd.Intn(3) == 0 {
				p = m.list[rnd.Intn(len(m.list))]
			}
			if add := rnd.Intn(5) < 3; add {
				adds(t, b, m, p, mayRect(p.rect) && may(p.by) && !slices.Contains(m.list, p))
			} else {
				removes(t, b, m, p, slices.Contains(m.list, p))
			}
			checkOver(t, b, cell(p.rect.Bottom, p.rect.Right), m.over(cell(p.rect.Bottom, p.rect.Right))...)
			c := anyCell(rnd)
			checkOver(t, b, c, m.over(c)...)
			if rnd.Intn(10) == 0 {
				checkAll(t, b, m)
			}
		}
		check(t, b, m, goodCells())
		checkInside(t, b, m)
		for _, p := range mixed(int64(seed), m.list) {
			removes(t, b, m, p, true)
		}
		check(t, b, m, goodCells())
	}
}
