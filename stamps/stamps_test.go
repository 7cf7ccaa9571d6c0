package stamps

import (
	"math/rand"
	"testing"

	"oriel/api"
)

// The chapter's examples, in their order.
func TestExamples(t *testing.T) {
	for _, most := range []int{1, 1<<40 + 1} {
		if k, code := New(most); k != nil || code != api.ErrArg {
			t.Errorf("New(%d) = %v, %d", most, k, code)
		}
	}
	k, b1 := newClock(t, 4), cell(1, 2)
	first, second := k.Change(a(1)), k.Change(a(2))
	k.See(b1)
	if third := k.Change(a(1)); first != api.OK || second != api.OK || third != api.OK {
		t.Error("a Change is refused")
	}
	has(t, k, a(1), 3, 0)
	has(t, k, a(2), 2, 0)
	has(t, k, b1, 0, 2)
	if !k.Newer(a(1), b1) || k.Newer(a(2), b1) || k.Newer(cell(9, 3), b1) {
		t.Error("Newer, by the numbers that were given first")
	}
	if code := k.Change(a(2)); code != api.OK {
		t.Errorf("Change(A2) = %d", code)
	}
	has(t, k, a(1), 1, 0)
	has(t, k, a(2), 2, 0)
	has(t, k, b1, 0, 0)
	tells(t, k, 2, 1)
	if !k.Newer(a(1), b1) || !k.Newer(a(2), b1) {
		t.Error("Newer, behind that all was numbered anew")
	}
	if third, fourth := k.Change(a(3)), k.Change(a(4)); third != api.OK || fourth != api.ErrStamp {
		t.Errorf("Change(A3), Change(A4) = %d, %d", third, fourth)
	}
	if code := k.Change(a(3)); code != api.OK {
		t.Errorf("Change(A3) again = %d", code)
	}
	has(t, k, a(1), 1, 0)
	has(t, k, a(2), 2, 0)
	has(t, k, a(3), 3, 0)
	tells(t, k, 3, 2)
	if code := k.Change(cell(0, 1)); code != api.ErrAddr {
		t.Errorf("Change({0 1}) = %d", code)
	}
}

// P18.1: in a new clock no cell has stamps, and nothing is newer than anything.
func TestNew(t *testing.T) {
	for _, most := range []int{2, 3, 4, 100, 1<<40 - 1, 1 << 40} {
		k := newClock(t, most)
		tells(t, k, 0, 0)
		for _, c := range append(goodCells(), wrongCells()...) {
			hasNone(t, k, c)
			if k.Newer(c, a(1)) || k.Newer(a(1), c) || k.Newer(c, c) {
				t.Fatalf("New(%d): %v is newer", most, c)
			}
		}
	}
}

// P18.2: each Change is given the next number; a cell that changes again leaves its number, and no other cell is given it.
func TestChange(t *testing.T) {
	p := newPlay(t, 1000, goodCells()...)
	for i, c := range goodCells() {
		p.changes(c)
		has(t, p.k, c, i+1, 0)
		tells(t, p.k, i+1, 0)
	}
	n := len(goodCells())
	p.changes(a(2), a(2), a(1))
	has(t, p.k, a(2), n+2, 0)
	has(t, p.k, a(1), n+3, 0)
	has(t, p.k, cell(1, 2), 2, 0)
	tells(t, p.k, n+3, 0)
}

// P18.3: a cell is seen at the number that was given last; to see it again is to see it then, and changes nothing else.
func TestSee(t *testing.T) {
	p := newPlay(t, 1000, a(1), a(2), a(3), a(4))
	p.see(a(1))
	has(t, p.k, a(1), 0, 0)
	p.changes(a(2), a(3))
	p.see(a(1))
	p.see(a(3))
	has(t, p.k, a(1), 0, 2)
	has(t, p.k, a(3), 2, 2)
	p.see(a(1))
	has(t, p.k, a(1), 0, 2)
	p.changes(a(3))
	has(t, p.k, a(3), 3, 2)
	p.see(a(3))
	has(t, p.k, a(3), 3, 3)
	has(t, p.k, a(1), 0, 2)
	has(t, p.k, a(2), 1, 0)
	hasNone(t, p.k, a(4))
	tells(t, p.k, 3, 0)
}

// P18.3: a cell that is dropped has no stamps, and both are 0 when it has some again; Last, Turns and the others stay.
func TestDrop(t *testing.T) {
	p := newPlay(t, 1000, a(1), a(2), a(3))
	p.drop(a(1))
	p.changes(a(1), a(2), a(3))
	p.see(a(1))
	p.see(a(2))
	p.drop(a(1))
	hasNone(t, p.k, a(1))
	has(t, p.k, a(2), 2, 3)
	has(t, p.k, a(3), 3, 0)
	tells(t, p.k, 3, 0)
	p.drop(a(1))
	p.changes(a(1))
	has(t, p.k, a(1), 4, 0)
	p.drop(a(2))
	p.see(a(2))
	has(t, p.k, a(2), 0, 4)
	p.drop(a(1))
	p.drop(a(2))
	p.drop(a(3))
	tells(t, p.k, 4, 0)
	p.changes(a(3))
	has(t, p.k, a(3), 5, 0)
}

// P18.3: the number that was given last stays so when the cell that has it is dropped: none is given twice.
func TestDropLast(t *testing.T) {
	p := newPlay(t, 5, a(1), a(2), a(3))
	p.changes(a(1), a(2))
	p.drop(a(2))
	p.see(a(3))
	has(t, p.k, a(3), 0, 2)
	p.changes(a(2))
	has(t, p.k, a(2), 3, 0)
	p.drop(a(1))
	p.drop(a(2))
	p.changes(a(1))
	tells(t, p.k, 4, 0)
	p.drop(a(1))
	p.changes(a(2))
	tells(t, p.k, 1, 1)
	has(t, p.k, a(3), 0, 0)
}

// P18.4: a cell seen but never changed, one changed but never seen, one without stamps, each as p and as x.
func TestNewer(t *testing.T) {
	k, seen, changed, both, none := newClock(t, 100), a(1), a(2), a(3), a(4)
	k.Change(both)
	k.See(seen)
	k.See(both)
	k.Change(changed)
	has(t, k, seen, 0, 1)
	has(t, k, changed, 2, 0)
	has(t, k, both, 1, 1)
	hasNone(t, k, none)
	for _, c := range []struct {
		p, x api.Cell
		want bool
	}{
		{seen, seen, false}, {seen, changed, false}, {seen, both, false}, {seen, none, false},
		{changed, seen, true}, {changed, changed, true}, {changed, both, true}, {changed, none, true},
		{both, seen, false}, {both, changed, true}, {both, both, false}, {both, none, true},
		{none, seen, false}, {none, changed, false}, {none, both, false}, {none, none, false},
	} {
		if got := k.Newer(c.p, c.x); got != c.want {
			t.Errorf("Newer(%v, %v) = %v", c.p, c.x, got)
		}
	}
	k.See(seen)
	k.See(both)
	if k.Newer(changed, seen) || k.Newer(changed, both) || !k.Newer(changed, none) {
		t.Error("a look behind the change")
	}
	k.Drop(both)
	if !k.Newer(changed, both) || k.Newer(both, changed) {
		t.Error("a cell that was dropped")
	}
}

// To ask changes nothing, and gives no cell stamps.
func TestAsk(t *testing.T) {
	p := newPlay(t, 4, append(goodCells(), wrongCells()...)...)
	p.changes(a(1), a(2), a(1))
	for range 20 {
		p.check("asked")
	}
	if n := len(p.k.cells); n != 2 {
		t.Errorf("%d cells have stamps", n)
	}
}

// anyCall is any call, of any of some cells: mostly Change and See.
func anyCall(rnd *rand.Rand, p *play, cells []api.Cell) api.Errno {
	c := cells[rnd.Intn(len(cells))]
	switch n := rnd.Intn(10); {
	case n < 5:
		return p.change(c)
	case n < 9:
		p.see(c)
	default:
		p.drop(c)
	}
	return api.OK
}

// P18.2 to P18.4: whatever is asked, in whatever order, with whatever bound, all is as the plain list has it.
func TestModel(t *testing.T) {
	for most := 2; most <= 12; most++ {
		for count := 1; count <= 10; count++ {
			cells := append(goodCells()[:count:count], a(0))
			p, refused := newPlay(t, most, cells...), 0
			rnd := rand.New(rand.NewSource(int64(most*100 + count)))
			for range 400 {
				if anyCall(rnd, p, cells) == api.ErrStamp {
					refused++
				}
			}
			if count < most && refused > 0 || count > most+2 && refused == 0 {
				t.Fatalf("most %d, %d cells: %d are refused", most, count, refused)
			}
			if p.k.Turns() == 0 {
				t.Fatalf("most %d, %d cells: nothing was numbered anew", most, count)
			}
		}
	}
}

// P18.2: every row of six calls over two cells and one that is only seen, with bounds of 2 to 4.
func TestEveryRow(t *testing.T) {
	calls := []func(p *play){
		func(p *play) { p.change(a(1)) }, func(p *play) { p.change(a(2)) }, func(p *play) { p.see(a(1)) }, func(p *play) { p.see(a(3)) }, func(p *play) { p.drop(a(1)) },
	}
	total := 1
	for range 6 {
		total *= len(calls)
	}
	for most := 2; most <= 4; most++ {
		for n := range total {
			p := newPlay(t, most, a(1), a(2), a(3))
			for range 6 {
				calls[n%len(calls)](p)
				n /= len(calls)
			}
		}
	}
}
