package stamps

import (
	"math"
	"reflect"
	"testing"

	"oriel/api"
)

// P18.1: most at its ends, one beyond them, and far beyond; what is refused is no clock.
func TestMost(t *testing.T) {
	for _, c := range []struct {
		most int
		want api.Errno
	}{
		{math.MinInt, api.ErrArg}, {-1 << 40, api.ErrArg}, {-2, api.ErrArg}, {-1, api.ErrArg}, {0, api.ErrArg}, {1, api.ErrArg},
		{2, api.OK}, {3, api.OK}, {4096, api.OK}, {1 << 32, api.OK}, {1<<40 - 1, api.OK}, {1 << 40, api.OK},
		{1<<40 + 1, api.ErrArg}, {1 << 41, api.ErrArg}, {1 << 62, api.ErrArg}, {math.MaxInt, api.ErrArg},
	} {
		if k, code := New(c.most); code != c.want || (k != nil) != (c.want == api.OK) {
			t.Errorf("New(%d) = %v, %d; want %d", c.most, k, code, c.want)
		}
	}
}

// P18.2: with most 2 there is one number; one cell alone may have it, and change as often as it likes.
func TestMostTwo(t *testing.T) {
	p := newPlay(t, 2, a(1), a(2), a(3))
	p.see(a(3))
	for turn := range 5 {
		p.changes(a(1))
		has(t, p.k, a(1), 1, 0)
		tells(t, p.k, 1, turn)
		if !p.k.Newer(a(1), a(3)) {
			t.Fatal("A1 has changed since A3 looked")
		}
		p.see(a(3))
		has(t, p.k, a(3), 0, 1)
		if p.k.Newer(a(1), a(3)) {
			t.Fatal("A1 has not changed since A3 looked")
		}
		if p.change(a(2)) != api.ErrStamp || p.change(a(3)) != api.ErrStamp {
			t.Fatal("a second cell has changed")
		}
	}
	p.drop(a(1))
	p.changes(a(2))
	tells(t, p.k, 1, 5)
	if p.change(a(1)) != api.ErrStamp {
		t.Error("A1 has changed, though A2 has the one number")
	}
}

// P18.2: all is numbered anew by the Change for which no number is left, none ahead of it.
func TestWhen(t *testing.T) {
	for most := 3; most <= 40; most++ {
		p := newPlay(t, most, a(1), a(2), a(3))
		p.changes(a(2))
		for last := 2; last < most; last++ {
			p.changes(a(1))
			has(t, p.k, a(1), last, 0)
			has(t, p.k, a(2), 1, 0)
			tells(t, p.k, last, 0)
		}
		p.see(a(3))
		has(t, p.k, a(3), 0, most-1)
		p.changes(a(1))
		has(t, p.k, a(1), 2, 0)
		has(t, p.k, a(2), 1, 0)
		has(t, p.k, a(3), 0, 1)
		tells(t, p.k, 2, 1)
	}
}

// P18.2: of two clocks with one number between their bounds, the same changes number the lesser one anew, and the greater one not.
func TestOneAhead(t *testing.T) {
	lesser, greater := newPlay(t, 6, a(1), a(2), a(3)), newPlay(t, 7, a(1), a(2), a(3))
	for _, p := range []*play{lesser, greater} {
		p.changes(a(1), a(2), a(1), a(3), a(2))
		tells(t, p.k, 5, 0)
		p.changes(a(1))
	}
	tells(t, lesser.k, 3, 1)
	tells(t, greater.k, 6, 0)
	has(t, lesser.k, a(1), 3, 0)
	has(t, lesser.k, a(2), 2, 0)
	has(t, lesser.k, a(3), 1, 0)
	has(t, greater.k, a(1), 6, 0)
	has(t, greater.k, a(2), 5, 0)
	has(t, greater.k, a(3), 4, 0)
}

// P18.2: with most - 1 others that have numbers a Change is refused, with most - 2 it is not; a cell with one of these numbers may always change.
func TestNoRoom(t *testing.T) {
	for most := 2; most <= 20; most++ {
		p := newPlay(t, most)
		for row := 1; row <= most+1; row++ {
			p.cells = append(p.cells, a(row))
		}
		for row := 1; row <= most-1; row++ {
			p.changes(a(row))
		}
		tells(t, p.k, most-1, 0)
		if p.change(a(most)) != api.ErrStamp || p.change(a(most+1)) != api.ErrStamp {
			t.Fatalf("most %d: there is room for one more", most)
		}
		tells(t, p.k, most-1, 0)
		for row := 1; row <= most-1; row++ {
			p.changes(a(row))
			tells(t, p.k, most-1, row)
		}
		p.drop(a(1))
		p.changes(a(most))
		has(t, p.k, a(most), most-1, 0)
		if p.change(a(1)) != api.ErrStamp {
			t.Fatalf("most %d: the room of A1 is given twice", most)
		}
	}
}

// P18.2: cells that were only seen, or dropped, take no number: they are not among the others.
func TestSeenTakesNone(t *testing.T) {
	p := newPlay(t, 4, a(1), a(2), a(3), a(4), a(5), a(6))
	for row := 1; row <= 6; row++ {
		p.see(a(row))
	}
	p.changes(a(1), a(2), a(3))
	if p.change(a(4)) != api.ErrStamp {
		t.Fatal("there is room for a fourth")
	}
	p.drop(a(4))
	if p.change(a(4)) != api.ErrStamp {
		t.Fatal("to drop what has no number makes room")
	}
	p.drop(a(2))
	p.see(a(2))
	p.changes(a(4))
	has(t, p.k, a(1), 1, 0)
	has(t, p.k, a(3), 2, 0)
	has(t, p.k, a(4), 3, 0)
	has(t, p.k, a(2), 0, 2)
}

// P18.2: a Seen when all is numbered anew: 0, a number that stays, one between two of them, the last one; and c's, too.
func TestSeenAnew(t *testing.T) {
	p := newPlay(t, 8, a(1), a(2), a(3), a(4), a(11), a(12), a(13), a(14), a(15), a(16), a(17), a(18))
	p.see(a(11))
	p.changes(a(1)) // 1 will be c's: not counted
	p.see(a(12))
	p.changes(a(2)) // 2 stays
	p.see(a(13))
	p.changes(a(3)) // 3 will be left for 5
	p.see(a(14))
	p.changes(a(4)) // 4 stays
	p.see(a(15))
	p.see(a(1))
	p.changes(a(3)) // 5 stays
	p.see(a(16))
	p.changes(a(1)) // 6 is c's
	p.see(a(17))
	p.changes(a(1)) // 7 is c's
	p.see(a(18))
	tells(t, p.k, 7, 0)
	p.changes(a(1))
	tells(t, p.k, 4, 1)
	has(t, p.k, a(2), 1, 0)
	has(t, p.k, a(4), 2, 0)
	has(t, p.k, a(3), 3, 0)
	has(t, p.k, a(1), 4, 2)
	for row, seen := range map[int]int{11: 0, 12: 0, 13: 1, 14: 1, 15: 2, 16: 3, 17: 3, 18: 3} {
		has(t, p.k, a(row), 0, seen)
	}
}

// P18.2: a number that c had, and that was not above a look, counts no more when all is numbered anew: else another's change would be taken as seen.
func TestOwnNumber(t *testing.T) {
	p := newPlay(t, 4, a(1), a(2), a(3))
	p.changes(a(1))
	p.see(a(3))
	p.changes(a(2), a(2), a(1))
	has(t, p.k, a(3), 0, 0)
	has(t, p.k, a(2), 1, 0)
	has(t, p.k, a(1), 2, 0)
	if !p.k.Newer(a(2), a(3)) {
		t.Error("A2 has changed since A3 looked")
	}
}

// P18.2: a Change that is numbered anew, of a cell without stamps, of one only seen, of one with the least number, of one with the greatest.
func TestWhoIsAnew(t *testing.T) {
	for row, want := range map[int][]int{1: {4, 1, 2, 3, 0}, 2: {1, 4, 2, 3, 0}, 3: {1, 2, 4, 3, 0}, 4: {1, 2, 3, 4, 0}, 5: {1, 2, 3, 4, 5}} {
		p := newPlay(t, 6, a(1), a(2), a(3), a(4), a(5))
		p.changes(a(4), a(1), a(2), a(3), a(4))
		if row == 5 {
			p.see(a(5))
		}
		p.changes(a(row))
		for i, n := range want {
			if s, _ := p.k.Get(a(i + 1)); s.Changed != n {
				t.Errorf("Change(%v): Get(%v) = %v; want %d", a(row), a(i+1), s, n)
			}
		}
	}
}

// P18.2, P18.3, R2: of cells that may not be Change is refused with ErrAddr, also where there is no room; See and Drop do nothing.
func TestWrongCells(t *testing.T) {
	empty, full := newPlay(t, 3, a(1), a(2), a(3)), newPlay(t, 3, a(1), a(2), a(3))
	full.changes(a(1), a(2))
	full.see(a(3))
	if full.change(a(3)) != api.ErrStamp {
		t.Fatal("there is room")
	}
	for _, p := range []*play{empty, full} {
		before := stateOf(p.k)
		for _, c := range wrongCells() {
			if code := p.change(c); code != api.ErrAddr {
				t.Fatalf("Change(%v) = %d", c, code)
			}
			p.see(c)
			hasNone(t, p.k, c)
			p.drop(c)
			if p.k.Newer(c, c) || p.k.Newer(c, a(1)) || p.k.Newer(a(1), c) != (p == full) {
				t.Fatalf("Newer of %v", c)
			}
		}
		if !reflect.DeepEqual(stateOf(p.k), before) {
			t.Error("something has changed")
		}
	}
}

// P18.2, R2: a refused Change changes nothing, whatever stamps its cell has; it stays refused, till another cell is dropped.
func TestRefused(t *testing.T) {
	for most := 2; most <= 6; most++ {
		p := newPlay(t, most, a(1), a(2), a(7), a(8), a(9))
		p.see(a(8))
		for row := most - 1; row >= 1; row-- {
			p.changes(a(row))
			p.see(a(9))
		}
		before := stateOf(p.k)
		for range 5 {
			for _, c := range []api.Cell{a(7), a(8), a(9), cell(4096, 256)} {
				if p.change(c) != api.ErrStamp {
					t.Fatalf("most %d: Change(%v) is not refused", most, c)
				}
			}
		}
		if !reflect.DeepEqual(stateOf(p.k), before) {
			t.Fatalf("most %d: a refused Change has changed something", most)
		}
		hasNone(t, p.k, a(7))
		has(t, p.k, a(8), 0, 0)
		p.drop(a(1))
		p.changes(a(7))
		has(t, p.k, a(7), most-1, 0)
	}
}

// P18.1, P18.2: the greatest bound: the last number below it is given, and then all is numbered anew.
func TestGreatestMost(t *testing.T) {
	p := newPlay(t, api.MaxStamp, a(1), a(2), a(3))
	p.changes(a(1), a(2))
	// So many changes as lie between are not told one by one.
	p.k.last, p.m.last = api.MaxStamp-3, api.MaxStamp-3
	p.see(a(3))
	p.changes(a(3), a(1))
	has(t, p.k, a(1), api.MaxStamp-1, 0)
	tells(t, p.k, api.MaxStamp-1, 0)
	p.see(a(2))
	p.changes(a(3))
	tells(t, p.k, 3, 1)
	has(t, p.k, a(1), 2, 0)
	has(t, p.k, a(2), 1, 2)
	has(t, p.k, a(3), 3, 1)
}
