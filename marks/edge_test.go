package marks

import (
	"fmt"
	"runtime/debug"
	"slices"
	"testing"

	"oriel/api"
)

// P19.2 to P19.4: to touch a cell that may not be, of any numbers, with formula or without, does nothing, and Peak is 0 behind it; such a cell has no state, and none by a Clean.
func TestWrongCells(t *testing.T) {
	p := newPlay(t)
	whole := many(a(1), cell(4096, 256))
	for _, c := range goodCells() {
		p.put(c, whole)
	}
	p.clean(a(2), a(64), a(4096))
	before := p.k.All()
	for i, c := range wrongCells() {
		p.touch(cell(9, 9), false)
		if p.k.Peak() == 0 {
			t.Fatal("a touch of I9 reaches nothing")
		}
		p.clean(a(2), a(64), a(4096))
		p.touch(c, i%2 == 0)
		p.has(0, before...)
		p.touch(c, i%2 == 1)
		p.clean(c)
		if state, is := p.k.State(c); state != 0 || is {
			t.Fatalf("State(%v) = %d, %v", c, state, is)
		}
		p.has(0, before...)
	}
}

// P19.2: cells at the sheet's ends, and one step within, are marked as all others.
func TestCorners(t *testing.T) {
	for _, c := range goodCells() {
		for _, x := range goodCells() {
			if c == x {
				continue
			}
			p := newPlay(t)
			p.put(x, one(c))
			p.clean(x)
			p.touch(c, false)
			p.has(1, due(x))
			p.clean(x)
			p.touch(c, true)
			if state, _ := p.k.State(x); state != api.Due || len(p.k.All()) != 2 {
				t.Fatalf("Touch(%v, true): %v", c, p.k.All())
			}
		}
	}
}

// P19.4: Peak is 0 behind a Touch that reaches nobody, also if a Touch ahead of it did; the other calls leave it as it is.
func TestPeakOfNothing(t *testing.T) {
	p := newPlay(t)
	p.touch(a(1), false)
	p.has(0)
	p.put(a(2), one(a(1)))
	for _, formula := range []bool{false, true} {
		p.clean(a(2))
		p.touch(a(1), false)
		p.has(1, due(a(2)))
		p.clean(a(2), a(7), a(0))
		p.k.State(a(2))
		p.k.All()
		p.set(a(3), one(a(2)))
		p.set(a(3))
		p.has(1, clean(a(2)))
		p.touch(cell(7, 7), formula)
		if p.k.Peak() != 0 {
			t.Errorf("Touch of G7: Peak is %d", p.k.Peak())
		}
		p.touch(cell(7, 7), false)
		p.has(0, clean(a(2)))
	}
}

// P19.2: a cell that refers to itself, by a cell or in a rectangle: with formula it is Due, and not put on the stack; without it has no state, though the references tell it.
func TestItself(t *testing.T) {
	for _, ref := range []api.Ref{one(a(2)), many(a(2), a(2)), many(a(1), a(3)), many(a(1), cell(4096, 256))} {
		for _, state := range []int{none, api.Clean, api.Maybe, api.Due} {
			for _, formula := range []bool{true, false} {
				p := newPlay(t)
				p.bring([]api.Cell{a(2), a(5)}, []int{state, api.Clean})
				p.set(a(2), ref)
				p.set(a(5), one(a(2)))
				p.touch(a(2), formula)
				want := []api.Mark{due(a(2)), due(a(5))}
				if !formula {
					want = want[1:]
				}
				p.has(1, want...)
			}
		}
	}
}

// P19.2: two cells that refer to themselves, and to one another, touched one behind the other.
func TestTwoThatHoldThemselves(t *testing.T) {
	p := newPlay(t)
	block := many(a(1), cell(1, 2))
	p.put(a(1), block)
	p.has(0, due(a(1)))
	p.put(cell(1, 2), block)
	p.has(0, due(a(1)), due(cell(1, 2)))
	p.cleanAll()
	p.touch(a(1), true)
	p.has(1, due(a(1)), due(cell(1, 2)))
	p.cleanAll()
	p.touch(a(1), false)
	p.has(1, due(cell(1, 2)))
	p.cleanAll()
	p.drop(a(1))
	p.has(1, due(cell(1, 2)))
}

// ring gives so many cells of column A a ring of references: each has the one ahead of it, the first one the last.
func (p *play) ring(n int) {
	p.t.Helper()
	for row := 1; row <= n; row++ {
		p.set(a(row), one(a((row+n-2)%n+1)))
	}
}

// P19.2: a ring through the touched cell: with formula that is Due, the next one too, and the others Maybe; without formula it has no state, and the push stops at it.
func TestRing(t *testing.T) {
	for n := 2; n <= 12; n++ {
		for touched := 1; touched <= n; touched++ {
			for _, formula := range []bool{true, false} {
				for _, state := range []int{none, api.Clean} {
					p := newPlay(t)
					var cells []api.Cell
					for row := 1; row <= n; row++ {
						cells = append(cells, a(row))
					}
					p.bring(cells, slices.Repeat([]int{state}, n))
					p.ring(n)
					p.touch(a(touched), formula)
					p.has(1, ringMarks(n, touched, formula)...)
					p.touch(a(touched), formula)
					p.has(0, ringMarks(n, touched, formula)...)
				}
			}
		}
	}
}

// ringMarks are the states of a ring, of which all held ahead, behind a Touch of one of its cells.
func ringMarks(n, touched int, formula bool) []api.Mark {
	var want []api.Mark
	for row := 1; row <= n; row++ {
		switch {
		case row == touched && !formula:
		case row == touched, row == touched%n+1:
			want = append(want, due(a(row)))
		default:
			want = append(want, maybe(a(row)))
		}
	}
	return want
}

// P19.2: a ring away from the touched cell is gone round once; where it is entered, the cell is Due or Maybe as it is reached.
func TestRingAway(t *testing.T) {
	for n := 2; n <= 8; n++ {
		p := newPlay(t)
		p.ring(n)
		p.set(a(1), one(a(n)), one(cell(1, 2)))
		for row := 1; row <= n; row++ {
			p.touch(a(row), true)
		}
		p.cleanAll()
		p.touch(cell(1, 2), false)
		want := []api.Mark{due(a(1))}
		for row := 2; row <= n; row++ {
			want = append(want, maybe(a(row)))
		}
		p.has(1, want...)
		p.set(cell(1, 2), one(cell(1, 3)))
		p.touch(cell(1, 2), true)
		p.cleanAll()
		p.touch(cell(1, 3), false)
		want[0] = maybe(a(1))
		p.has(1, slices.Insert(want, 1, due(cell(1, 2)))...)
	}
}

// P19.2: a ring that goes through the touched cell on the second way alone, and over a direct dependent.
func TestRingsThrough(t *testing.T) {
	for _, formula := range []bool{true, false} {
		p := newPlay(t)
		// A2 and A3 refer to A1; A1 to A4, that to A3; A2 to A4, too.
		p.set(a(1), one(a(4)))
		p.set(a(2), one(a(1)), one(a(4)))
		p.set(a(3), one(a(1)))
		p.set(a(4), one(a(3)))
		p.touch(a(1), formula)
		want := []api.Mark{due(a(1)), due(a(2)), due(a(3)), maybe(a(4))}
		if !formula {
			want = want[1:]
		}
		p.has(2, want...)
	}
}

// P19.2: a touched cell that had a formula, and has none any more, has no state, whatever it had; its dependents are marked, and it may have a formula again.
func TestNoFormulaAnyMore(t *testing.T) {
	for _, state := range []int{api.Clean, api.Maybe, api.Due} {
		p := newPlay(t)
		p.bring([]api.Cell{a(2), a(3), a(4)}, []int{state, api.Clean, api.Clean})
		p.set(a(3), one(a(2)))
		p.set(a(4), one(a(3)))
		p.touch(a(2), false)
		p.has(1, due(a(3)), maybe(a(4)))
		p.clean(a(2))
		p.has(1, due(a(3)), maybe(a(4)))
		p.cleanAll()
		p.touch(a(2), true)
		p.has(1, due(a(2)), due(a(3)), maybe(a(4)))
	}
}

// P19.2: the references count as they are at the Touch: those that came since the last one, and not those that went; no state changes with them by itself.
func TestDepsChange(t *testing.T) {
	p := newPlay(t)
	p.put(a(2), one(a(1)))
	p.put(a(3), one(a(2)))
	p.put(a(4))
	p.cleanAll()
	p.set(a(3), one(a(9)))
	p.set(a(4), one(a(2)))
	p.has(0, clean(a(2)), clean(a(3)), clean(a(4)))
	p.touch(a(1), false)
	p.has(1, due(a(2)), clean(a(3)), maybe(a(4)))
	p.cleanAll()
	p.set(a(2))
	p.touch(a(1), false)
	p.has(0, clean(a(2)), clean(a(3)), clean(a(4)))
	p.touch(a(9), false)
	p.has(1, clean(a(2)), due(a(3)), clean(a(4)))
	p.set(a(3))
	p.touch(a(9), false)
	p.has(0, clean(a(2)), due(a(3)), clean(a(4)))
}

// P19.1, P19.2: each cell that Direct tells is taken as one that has a formula: also one that was never touched, or was touched as one without.
func TestDirectIsFormula(t *testing.T) {
	p := newPlay(t)
	p.set(a(2), one(a(1)))
	p.set(a(3), one(a(2)))
	p.touch(a(1), false)
	p.has(1, due(a(2)), maybe(a(3)))
	p.touch(a(2), false)
	p.has(0, due(a(3)))
	p.touch(a(1), true)
	p.has(1, due(a(1)), due(a(2)), due(a(3)))
	p.touch(a(3), false)
	p.has(0, due(a(1)), due(a(2)))
	p.clean(a(2))
	p.touch(a(1), false)
	p.has(1, due(a(2)), maybe(a(3)))
}

// long makes some cells a chain: each refers to the one ahead of it.
func (p *play) long(cells []api.Cell) {
	p.t.Helper()
	for i := 1; i < len(cells); i++ {
		if code := p.d.Set(cells[i], ones(cells[i-1])); code != api.OK {
			p.t.Fatalf("Set(%v) = %d", cells[i], code)
		}
	}
}

// checkAll fails the test, unless the first of some cells has the one state, the others the other one, and Peak is that.
func (p *play) checkAll(cells []api.Cell, first, others, peak int) {
	p.t.Helper()
	var want []api.Mark
	for i, c := range cells {
		state := others
		if i == 0 {
			state = first
		}
		want = append(want, api.Mark{Cell: c, State: state})
	}
	slices.SortFunc(want, func(a, b api.Mark) int { return rowByRow(a.Cell, b.Cell) })
	if got := p.k.All(); !slices.Equal(got, want) || p.k.Peak() != peak {
		p.t.Fatalf("Peak %d, %d states %s; want %d, %d: %s", p.k.Peak(), len(got), begin(got), peak, len(want), begin(want))
	}
}

// P19.2: a chain as long as cells may have contents, in rows, in columns, from its end, and without order: the first one behind the touched cell is Due, the others Maybe; a push from its middle stops where one ahead has come.
func TestLongChain(t *testing.T) {
	down := cross(upTo(4096), []int{1})
	up := slices.Clone(down)
	slices.Reverse(up)
	for name, cells := range map[string][]api.Cell{"down": down, "up": up, "rows": cross(upTo(16), upTo(256)), "mixed": mixed(1, down)} {
		p := newPlay(t)
		p.long(cells)
		for _, c := range cells[1:] {
			p.k.Touch(c, true)
		}
		cleanAll := func() {
			for _, c := range cells {
				p.k.Clean(c)
			}
		}
		p.checkAll(cells[1:], api.Due, api.Due, 0)
		cleanAll()
		p.k.Touch(cells[0], false)
		p.checkAll(cells[1:], api.Due, api.Maybe, 1)
		p.k.Touch(cells[0], false)
		p.checkAll(cells[1:], api.Due, api.Maybe, 0)
		cleanAll()
		p.k.Touch(cells[2000], true)
		p.k.Touch(cells[0], false)
		for i, want := range map[int]int{1: api.Due, 2: api.Maybe, 1999: api.Maybe, 2000: api.Due, 2001: api.Due, 2002: api.Maybe, 4095: api.Maybe} {
			if state, is := p.k.State(cells[i]); state != want || !is {
				t.Errorf("%s: the cell %d has the state %d, %v", name, i, state, is)
			}
		}
		p.k.Clean(cells[2001])
		p.k.Touch(cells[1], false)
		for i, want := range map[int]int{2: api.Due, 3: api.Maybe, 2000: api.Due, 2001: api.Clean, 2002: api.Maybe} {
			if state, is := p.k.State(cells[i]); state != want || !is || p.k.Peak() != 0 || len(p.k.All()) != 4094 {
				t.Errorf("%s: Peak %d, the cell %d has the state %d, %v", name, p.k.Peak(), i, state, is)
			}
		}
	}
}

// upTo are the numbers from 1 on.
func upTo(n int) []int {
	var list []int
	for i := range n {
		list = append(list, i+1)
	}
	return list
}

// P19.2: a ring as long as cells may have contents, touched in its midst.
func TestLongRing(t *testing.T) {
	for _, formula := range []bool{true, false} {
		p := newPlay(t)
		for row := 1; row <= 4096; row++ {
			p.d.Set(a(row), ones(a(row%4096+1)))
		}
		p.k.Touch(a(1000), formula)
		want := []api.Mark{}
		for row := 1; row <= 4096; row++ {
			switch {
			case row == 1000 && !formula:
			case row == 1000, row == 999:
				want = append(want, due(a(row)))
			default:
				want = append(want, maybe(a(row)))
			}
		}
		p.has(1, want...)
	}
}

// P19.2: a cell on which all others depend: directly, each by itself or by one rectangle, or all over one; all of them stand on the stack at one time.
func TestAllDepend(t *testing.T) {
	cells := cross(upTo(16), upTo(256))
	for name, ref := range map[string]api.Ref{"by itself": one(cells[0]), "in a rectangle": many(cells[0], cell(1, 1)), "in a row": many(cells[0], cell(1, 200))} {
		p := newPlay(t)
		for _, c := range cells[1:] {
			p.d.Set(c, []api.Ref{ref})
		}
		p.k.Touch(cells[0], false)
		p.checkAll(cells[1:], api.Due, api.Due, 4095)
		p.k.Touch(cells[0], false)
		p.checkAll(cells[1:], api.Due, api.Due, 0)
		for _, c := range cells {
			p.k.Clean(c)
		}
		if got := p.k.All(); len(got) != 4095 || slices.ContainsFunc(got, func(s api.Mark) bool { return s.State != api.Clean }) {
			t.Errorf("%s: not all are Clean", name)
		}
	}
	p := newPlay(t)
	p.d.Set(cells[1], ones(cells[0]))
	for _, c := range cells[2:] {
		p.d.Set(c, ones(cells[1]))
	}
	p.k.Touch(cells[0], false)
	p.checkAll(cells[1:], api.Due, api.Maybe, 4094)
}

// P19.2, P19.6: as many cells as may have contents, each of which refers to all of them: each stands on the stack once.
func TestAllReferToAll(t *testing.T) {
	cells := cross(upTo(4096), []int{1})
	p := newPlay(t)
	for _, c := range cells {
		p.d.Set(c, []api.Ref{many(a(1), a(4096))})
	}
	p.k.Touch(a(7), true)
	p.checkAll(cells, api.Due, api.Due, 4095)
	p.k.Touch(a(8), false)
	p.checkAll(slices.Concat(cells[:7], cells[8:]), api.Due, api.Due, 0)
}

// Ways: marks have a stack of their own: far more cells than may have contents, each behind another one, are marked with little room for calls that wait for one another. (With more of them the program ends here.)
func TestNoRecursion(t *testing.T) {
	p, cells := newPlay(t), cross(upTo(4096), upTo(16))
	p.long(cells)
	defer debug.SetMaxStack(debug.SetMaxStack(1 << 19))
	done := make(chan bool)
	go func() {
		p.k.Touch(cells[0], false)
		close(done)
	}()
	<-done
	p.checkAll(cells[1:], api.Due, api.Maybe, 1)
}

// P19.2: what a Touch comes to hangs on the states ahead of it: a cell in each state, reached directly, further, and both, from a touched cell with formula and without.
func TestEachStateEachWay(t *testing.T) {
	for _, first := range []int{none, api.Clean, api.Maybe, api.Due} {
		for _, second := range []int{none, api.Clean, api.Maybe, api.Due} {
			for ways := range 8 {
				p := newPlay(t)
				p.bring([]api.Cell{a(2), cell(2, 2)}, []int{first, second})
				var refs []api.Ref
				for i, c := range []api.Cell{a(1), a(2), cell(2, 2)} {
					if ways>>i&1 == 1 {
						refs = append(refs, one(c))
					}
				}
				p.set(a(2), one(a(1)))
				p.set(cell(2, 2), refs...)
				p.set(cell(1, 9), many(cell(2, 2), cell(2, 3)))
				p.touch(a(1), ways%3 == 0)
				state, is := p.k.State(cell(2, 2))
				name := fmt.Sprintf("A2 %d, B2 %d, ways %d: B2 has %d, %v", first, second, ways, state, is)
				switch {
				case ways&1 == 1:
					if state != api.Due {
						t.Error(name)
					}
				case ways&2 == 2 && first <= api.Clean && second <= api.Clean:
					if state != api.Maybe {
						t.Error(name)
					}
				default:
					if is != (second != none) || is && state != second {
						t.Error(name)
					}
				}
			}
		}
	}
}
