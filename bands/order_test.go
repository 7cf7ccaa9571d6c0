package bands

import (
	"math/rand"
	"slices"
	"testing"

	"oriel/api"
	"oriel/order"
)

// P16.2: Over tells cells by their rows, then by their columns, in whatever order they came.
func TestOrderOfOver(t *testing.T) {
	cells := []api.Cell{cell(1, 255), cell(1, 256), cell(2, 1), cell(2, 2), cell(10, 9), cell(10, 10), cell(63, 256), cell(64, 1), cell(64, 256), cell(65, 1), cell(100, 3), cell(4096, 1), cell(4096, 256)}
	var pairs []pair
	for _, by := range cells {
		pairs = append(pairs, pair{rect(64, 1, 65, 256), by})
	}
	for seed := range int64(20) {
		b, _ := filled(t, mixed(seed, pairs))
		checkOver(t, b, cell(64, 256), cells...)
		checkOver(t, b, cell(65, 1), cells...)
		checkOver(t, b, cell(63, 1))
		b.Remove(pairs[4].rect, cells[4])
		checkOver(t, b, cell(65, 1), slices.Concat(cells[:4], cells[5:])...)
	}
}

// P16.2: a cell is told once, however many of its rectangles hold the place, and as long as one of them does.
func TestOverOnce(t *testing.T) {
	a, c := cell(5, 6), cell(6, 5)
	rects := []api.Rect{whole(), rect(64, 1, 64, 256), rect(1, 27, 4096, 27), rect(64, 27, 64, 27), rect(63, 26, 65, 28), rect(64, 27, 4096, 256), rect(1, 1, 64, 27), rect(1, 1, 64, 256)}
	for seed := range 20 {
		b := New()
		b.Add(rect(64, 27, 64, 27), c)
		turns := rand.New(rand.NewSource(int64(seed))).Perm(len(rects))
		for _, i := range turns {
			b.Add(rects[i], a)
			checkOver(t, b, cell(64, 27), a, c)
		}
		for n, i := range turns {
			checkOver(t, b, cell(64, 27), a, c)
			if !b.Remove(rects[i], a) {
				t.Fatalf("%v is not there, behind %d others", rects[i], n)
			}
		}
		checkOver(t, b, cell(64, 27), c)
	}
}

// P16.2: a rectangle that does not hold the place hides none behind it or ahead of it that does, of the same cell or of the next one.
func TestNoneHidden(t *testing.T) {
	hold := []api.Rect{rect(60, 1, 70, 9), rect(64, 1, 64, 9), rect(1, 5, 4096, 5), rect(64, 5, 64, 5), rect(10, 5, 64, 6)}
	miss := []api.Rect{rect(1, 1, 10, 9), rect(60, 6, 70, 9), rect(64, 1, 64, 4), rect(65, 1, 70, 9), rect(60, 1, 63, 9), rect(65, 5, 65, 5), rect(4096, 1, 4096, 256), rect(1, 6, 4096, 256)}
	for _, h := range hold {
		for _, x := range miss {
			for _, y := range miss {
				b := New()
				for _, r := range []api.Rect{x, h, y} {
					b.Add(r, cell(3, 3))
				}
				b.Add(x, cell(3, 2))
				b.Add(y, cell(3, 4))
				b.Add(h, cell(3, 5))
				checkOver(t, b, cell(64, 5), cell(3, 3), cell(3, 5))
			}
		}
	}
}

// P16.3: All's order, of pairs that differ in one number alone, and of such in which a later number would tell otherwise.
func TestOrderOfAll(t *testing.T) {
	for _, c := range []struct {
		name    string
		ordered []pair
	}{
		{"row", []pair{{rect(5, 5, 9, 9), cell(7, 7)}, {rect(5, 5, 9, 9), cell(8, 7)}, {rect(5, 5, 9, 9), cell(10, 7)}, {rect(5, 5, 9, 9), cell(100, 7)}}},
		{"col", []pair{{rect(5, 5, 9, 9), cell(7, 7)}, {rect(5, 5, 9, 9), cell(7, 8)}, {rect(5, 5, 9, 9), cell(7, 10)}, {rect(5, 5, 9, 9), cell(7, 100)}}},
		{"top", []pair{{rect(1, 5, 9, 9), cell(7, 7)}, {rect(2, 5, 9, 9), cell(7, 7)}, {rect(5, 5, 9, 9), cell(7, 7)}, {rect(9, 5, 9, 9), cell(7, 7)}}},
		{"left", []pair{{rect(5, 1, 9, 9), cell(7, 7)}, {rect(5, 2, 9, 9), cell(7, 7)}, {rect(5, 5, 9, 9), cell(7, 7)}, {rect(5, 9, 9, 9), cell(7, 7)}}},
		{"bottom", []pair{{rect(5, 5, 5, 9), cell(7, 7)}, {rect(5, 5, 9, 9), cell(7, 7)}, {rect(5, 5, 10, 9), cell(7, 7)}, {rect(5, 5, 4096, 9), cell(7, 7)}}},
		{"right", []pair{{rect(5, 5, 9, 5), cell(7, 7)}, {rect(5, 5, 9, 9), cell(7, 7)}, {rect(5, 5, 9, 10), cell(7, 7)}, {rect(5, 5, 9, 256), cell(7, 7)}}},
		{"row ahead of col", []pair{{rect(5, 5, 9, 9), cell(7, 8)}, {rect(5, 5, 9, 9), cell(8, 7)}}},
		{"col ahead of top", []pair{{rect(6, 5, 9, 9), cell(7, 7)}, {rect(5, 5, 9, 9), cell(7, 8)}}},
		{"top ahead of left", []pair{{rect(5, 6, 9, 9), cell(7, 7)}, {rect(6, 5, 9, 9), cell(7, 7)}}},
		{"left ahead of bottom", []pair{{rect(5, 5, 10, 9), cell(7, 7)}, {rect(5, 6, 9, 9), cell(7, 7)}}},
		{"bottom ahead of right", []pair{{rect(5, 5, 9, 10), cell(7, 7)}, {rect(5, 5, 10, 9), cell(7, 7)}}},
		{"row ahead of all", []pair{{rect(6, 6, 10, 10), cell(7, 8)}, {rect(5, 5, 9, 9), cell(8, 7)}}},
	} {
		for seed := range int64(12) {
			b, _ := filled(t, mixed(seed, c.ordered))
			var want []api.Edge
			for _, p := range c.ordered {
				want = append(want, api.Edge{From: p.by, To: api.Ref{Many: true, Rect: p.rect}})
			}
			if got := b.All(); !slices.Equal(got, want) {
				t.Errorf("%s: All = %v; want %v", c.name, got, want)
			}
		}
	}
}

// P16.3, R3: each edge has Many and the rectangle as it was added, of one cell too.
func TestAllMany(t *testing.T) {
	b, _ := filled(t, somePairs())
	if len(b.All()) != len(somePairs()) {
		t.Fatalf("%d edges of %d pairs", len(b.All()), len(somePairs()))
	}
	for _, e := range b.All() {
		if !e.To.Many || !slices.Contains(somePairs(), pair{e.To.Rect, e.From}) {
			t.Errorf("the edge %+v is of no pair", e)
		}
	}
}

// What follows: a is one of Over(c) just if one of a's rectangles in All has c in it.
func TestOverByAll(t *testing.T) {
	b, _ := filled(t, mixed(3, somePairs()))
	for _, c := range append(goodCells(), wrongCells()...) {
		over := b.Over(c)
		for _, by := range append(goodCells(), wrongCells()[:30]...) {
			one := slices.ContainsFunc(b.All(), func(e api.Edge) bool { return e.From == by && has(e.To.Rect, c) })
			if slices.Contains(over, by) != one {
				t.Fatalf("%v is one of Over(%v): %v; by All %v", by, c, !one, one)
			}
		}
		if !slices.IsSortedFunc(over, order.Cells) || len(slices.Compact(slices.Clone(over))) != len(over) {
			t.Fatalf("Over(%v) = %v", c, over)
		}
	}
}

// What follows: the order of Adds does not matter, nor what came and went between them.
func TestOrderOfAdds(t *testing.T) {
	want, m := filled(t, somePairs())
	check(t, want, m, goodCells())
	rects := someRects()
	for seed := range int64(20) {
		b := New()
		rnd := rand.New(rand.NewSource(seed))
		for _, p := range mixed(seed, somePairs()) {
			other := pair{rects[rnd.Intn(len(rects))], cell(1+rnd.Intn(3), 3+rnd.Intn(3))}
			b.Add(other.rect, other.by)
			if !b.Add(p.rect, p.by) || b.Add(p.rect, p.by) {
				t.Fatalf("Add(%v, %v)", p.rect, p.by)
			}
			b.Remove(other.rect, other.by)
		}
		if !slices.Equal(b.All(), want.All()) {
			t.Fatalf("All = %v; want %v", b.All(), want.All())
		}
		for _, c := range goodCells() {
			checkOver(t, b, c, want.Over(c)...)
		}
	}
}
