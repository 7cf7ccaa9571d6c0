package bands

import (
	"math/rand"
	"reflect"
	"slices"
	"sync"
	"testing"

	"oriel/api"
	"oriel/order"
)

// checkInside fails the test, unless each band has just those who have a rectangle with a row of it, counted.
func checkInside(t *testing.T, b *Bands, m *model) {
	t.Helper()
	for at, k := range b.bands {
		first, last := at*bandRows+1, (at+1)*bandRows
		want := map[api.Cell]int{}
		for _, p := range m.list {
			if p.rect.Top <= last && p.rect.Bottom >= first {
				want[p.by]++
			}
		}
		for i, s := range k {
			if want[s.who.cell] != s.count || b.all.get(s.who.cell) != s.who || i > 0 && order.Cells(k[i-1].who.cell, s.who.cell) >= 0 {
				t.Fatalf("the band %d has %v for %d rectangles; want %d", at, s.who.cell, s.count, want[s.who.cell])
			}
		}
		if len(k) != len(want) {
			t.Fatalf("the band %d has %d lookers; want %d", at, len(k), len(want))
		}
	}
	for _, s := range b.all {
		if s.count != len(s.who.rects) || s.count == 0 {
			t.Fatalf("%v has %d rectangles, counted as %d", s.who.cell, len(s.who.rects), s.count)
		}
	}
}

// Bands have all rows of the sheet, each just so many.
func TestBandOf(t *testing.T) {
	for row := 1; row <= api.MaxRow; row++ {
		at := bandOf(row)
		if at < 0 || at >= bandCount || row <= at*bandRows || row > (at+1)*bandRows {
			t.Fatalf("the row %d stands in the band %d", row, at)
		}
	}
}

// What follows: what was added and removed leaves nothing behind: it is as new.
func TestNothingBehind(t *testing.T) {
	for seed := range int64(20) {
		b, m := filled(t, mixed(seed, somePairs()))
		checkInside(t, b, m)
		for _, p := range mixed(seed+100, somePairs()) {
			removes(t, b, m, p, true)
			checkInside(t, b, m)
		}
		if !reflect.DeepEqual(b, New()) {
			t.Fatalf("something is left: %+v", b.all)
		}
		check(t, b, m, goodCells())
	}
}

// What follows: behind pairs that came and went it is as if they had never come.
func TestAsNever(t *testing.T) {
	pairs := mixed(8, somePairs())
	stay, go1 := pairs[:40], pairs[40:]
	want, m := filled(t, stay)
	for seed := range int64(20) {
		b, _ := filled(t, mixed(seed, append(slices.Clone(go1), stay...)))
		for _, p := range mixed(seed+50, go1) {
			b.Remove(p.rect, p.by)
		}
		if !reflect.DeepEqual(b, want) {
			t.Fatal("another state than without what came and went")
		}
		check(t, b, m, goodCells())
	}
}

// What is refused, or asked, keeps nothing.
func TestRefusedKeepsNothing(t *testing.T) {
	b := New()
	for _, by := range append(goodCells(), wrongCells()...) {
		for _, r := range wrongRects() {
			b.Add(r, by)
			b.Remove(r, by)
		}
		b.Remove(whole(), by)
		b.Over(by)
	}
	b.All()
	if !reflect.DeepEqual(b, New()) {
		t.Error("something is kept")
	}
}

// spare fails the test, if a list has far more room than it needs.
func spare[T any](t *testing.T, what string, list []T) {
	t.Helper()
	if cap(list) > 4*len(list)+8 {
		t.Fatalf("%s: room for %d of %d", what, cap(list), len(list))
	}
}

// What was added and removed leaves no room behind, neither of many rectangles nor of many cells, however many are left.
func TestRoom(t *testing.T) {
	b, by := New(), cell(9, 9)
	for row := 1; row <= 4096; row++ {
		b.Add(rect(1, 1, row, 1), by)
	}
	for row := 2; row <= 4096; row++ {
		b.Remove(rect(1, 1, row, 1), by)
		spare(t, "a cell's rectangles", b.all[0].who.rects)
	}
	for row := 1; row <= 4096; row++ {
		b.Add(whole(), cell(row, 5))
	}
	for row := 1; row <= 4096; row++ {
		b.Remove(whole(), cell(4097-row, 5))
		spare(t, "all", b.all)
		for _, k := range b.bands {
			spare(t, "a band", k)
		}
	}
	if len(b.all) != 1 || len(b.bands[0]) != 1 {
		t.Errorf("%d cells have rectangles, %d in the first band", len(b.all), len(b.bands[0]))
	}
	for at, k := range b.bands[1:] {
		if k != nil {
			t.Errorf("the band %d keeps room for %d", at+1, cap(k))
		}
	}
}

// As many cells as a sheet may have contents, each with a rectangle of each kind, added and removed without order.
func TestMany(t *testing.T) {
	b := New()
	rnd := rand.New(rand.NewSource(1))
	turns := rnd.Perm(4096)
	of := func(i int) []pair {
		by := cell(i+1, 1+i*37%256)
		return []pair{{whole(), by}, {rect(1, 1, i+1, 1), by}, {rect(i+1, 7, i+1, 9), by}}
	}
	for _, i := range turns {
		for _, p := range of(i) {
			if !b.Add(p.rect, p.by) {
				t.Fatalf("Add(%v, %v)", p.rect, p.by)
			}
		}
	}
	if n := len(b.All()); n != 3*4096 {
		t.Fatalf("All tells %d pairs", n)
	}
	if n := len(b.Over(cell(2000, 100))); n != 4096 {
		t.Fatalf("Over tells %d cells", n)
	}
	for _, i := range turns {
		if !b.Remove(whole(), of(i)[0].by) {
			t.Fatalf("the sheet of %d is not there", i)
		}
	}
	for row := 1; row <= 4096; row++ {
		checkOver(t, b, cell(row, 8), of(row - 1)[0].by)
		if n := len(b.Over(cell(row, 1))); n != 4097-row {
			t.Fatalf("Over the row %d: %d cells", row, n)
		}
	}
}

// R5: two Bands know nothing of one another.
func TestTwoBands(t *testing.T) {
	a, b := New(), New()
	ma, mb := &model{}, &model{}
	for i, p := range mixed(1, somePairs()) {
		adds(t, a, ma, p, true)
		checkAll(t, b, mb)
		checkOver(t, b, cell(p.rect.Top, p.rect.Left), mb.over(cell(p.rect.Top, p.rect.Left))...)
		removes(t, b, mb, p, false)
		checkOver(t, a, cell(p.rect.Top, p.rect.Left), ma.over(cell(p.rect.Top, p.rect.Left))...)
		if i%2 == 0 {
			adds(t, b, mb, p, true)
		}
	}
	for i, p := range somePairs() {
		if i%3 == 0 {
			removes(t, a, ma, p, true)
		}
	}
	check(t, a, ma, goodCells())
	check(t, b, mb, goodCells())
}

// R4: lists that are answered, with their spare room, are new memory: who writes into them changes nothing, neither of what is kept nor of other answers.
func TestAnswersAreNew(t *testing.T) {
	b, m := filled(t, somePairs())
	c := cell(64, 27)
	over, all := b.Over(c), b.All()
	over2, all2 := b.Over(c), b.All()
	for i := range over[:cap(over)] {
		over[:cap(over)][i] = cell(-1, -1)
	}
	for i := range all[:cap(all)] {
		all[:cap(all)][i] = api.Edge{}
	}
	if !slices.Equal(over2, m.over(c)) || !slices.Equal(all2, m.all()) {
		t.Error("two answers share memory")
	}
	check(t, b, m, goodCells())
	checkInside(t, b, m)
	for _, p := range somePairs() {
		adds(t, b, m, p, false)
		removes(t, b, m, p, true)
		_ = append(over2, cell(-2, -2))
		_ = append(all2, api.Edge{})
		checkAll(t, b, m)
	}
}

// R4: what was answered stays as it is, whatever is added and removed behind it.
func TestAnswersStay(t *testing.T) {
	b, m := filled(t, somePairs())
	c := cell(64, 27)
	over, all := b.Over(c), b.All()
	wantOver, wantAll := m.over(c), m.all()
	for i, p := range mixed(2, somePairs()) {
		removes(t, b, m, p, true)
		adds(t, b, m, pair{whole(), cell(3, 1+i)}, true)
	}
	if !slices.Equal(over, wantOver) || !slices.Equal(all, wantAll) {
		t.Error("what was answered is changed by what came behind it")
	}
}

// R5: Bands that are asked side by side, each by one hand, share nothing.
func TestSideBands(t *testing.T) {
	var all sync.WaitGroup
	want, _ := filled(t, somePairs())
	edges := want.All()
	for hand := range 16 {
		all.Go(func() {
			b := New()
			for _, p := range mixed(int64(hand), somePairs()) {
				b.Add(p.rect, p.by)
			}
			if !slices.Equal(b.All(), edges) {
				t.Errorf("the hand %d has other pairs", hand)
			}
			for _, p := range mixed(int64(hand+50), somePairs()) {
				if len(b.Over(cell(p.rect.Top, p.rect.Left))) == 0 || !b.Remove(p.rect, p.by) {
					t.Errorf("the hand %d does not find %v", hand, p)
				}
			}
			if len(b.All()) != 0 {
				t.Errorf("the hand %d has pairs left", hand)
			}
		})
	}
	all.Wait()
}
