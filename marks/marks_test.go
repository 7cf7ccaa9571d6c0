package marks

import (
	"slices"
	"testing"

	"oriel/api"
	"oriel/deps"
)

// The chapter's examples, in their order.
func TestExamples(t *testing.T) {
	p, a1, b1, c1, d1 := newPlay(t), cell(1, 1), cell(1, 2), cell(1, 3), cell(1, 4)
	p.set(b1, one(a1))
	p.set(c1, one(b1))
	p.set(d1, one(c1), one(a1))
	p.touch(b1, true)
	p.touch(c1, true)
	p.touch(d1, true)
	p.has(0, due(b1), due(c1), due(d1))
	p.clean(b1, c1, d1)
	p.touch(a1, false)
	p.has(2, due(b1), maybe(c1), due(d1))
	p.clean(b1)
	p.touch(a1, false)
	p.has(1, due(b1), maybe(c1), due(d1))
	p.touch(b1, true)
	p.has(0, due(b1), due(c1), due(d1))
	for _, c := range []api.Cell{a1, cell(9, 5)} {
		if state, is := p.k.State(c); state != 0 || is {
			t.Errorf("State(%v) = %d, %v", c, state, is)
		}
	}
}

// The states have the chapter's numbers.
func TestNumbers(t *testing.T) {
	p := newPlay(t)
	p.set(a(2), one(a(1)))
	p.set(a(3), one(a(2)))
	p.touch(a(3), true)
	p.clean(a(3))
	for _, want := range [][]int{{0, 0}, {2, 1}} {
		for i, c := range []api.Cell{a(2), a(3)} {
			if state, _ := p.k.State(c); state != want[i] {
				t.Errorf("State(%v) = %d; want %d", c, state, want[i])
			}
		}
		p.touch(a(1), false)
	}
}

// P19.1, R1: without references there are no marks.
func TestNewOfNil(t *testing.T) {
	if New(nil) != nil {
		t.Error("there are marks over nil")
	}
}

// P19.1: new marks have no states, whatever the references are, and nothing stood on a stack.
func TestNew(t *testing.T) {
	filled := deps.New()
	for _, c := range goodCells() {
		filled.Set(c, []api.Ref{one(a(1)), many(a(1), cell(4096, 256))})
	}
	for _, d := range []*deps.Deps{deps.New(), filled} {
		edges := d.Edges()
		k := New(d)
		if k == nil || len(k.All()) != 0 || k.Peak() != 0 {
			t.Fatal("new marks have states")
		}
		for _, c := range slices.Concat(goodCells(), wrongCells()) {
			if state, is := k.State(c); state != 0 || is {
				t.Fatalf("State(%v) = %d, %v", c, state, is)
			}
			k.Clean(c)
		}
		if len(k.All()) != 0 || k.Peak() != 0 {
			t.Fatal("to clean what has no state gives states")
		}
		if !slices.Equal(d.Edges(), edges) {
			t.Fatal("the references are changed")
		}
	}
}

// P19.1: the references are kept as they are: what changes there behind New counts at the next Touch, and no call of the marks changes them.
func TestKeepsDeps(t *testing.T) {
	d := deps.New()
	k := New(d)
	edges := func(want int) {
		t.Helper()
		if len(d.Edges()) != want || len(d.Back()) != want {
			t.Fatalf("%d and %d references; want %d", len(d.Edges()), len(d.Back()), want)
		}
	}
	k.Touch(a(1), false)
	d.Set(a(2), ones(a(1)))
	k.Touch(a(1), false)
	if got := k.All(); !slices.Equal(got, []api.Mark{due(a(2))}) {
		t.Fatalf("All is %v", got)
	}
	edges(1)
	d.Set(a(3), ones(a(2), a(1)))
	k.Touch(a(2), false)
	k.Clean(a(3))
	k.State(a(3))
	k.Peak()
	if got := k.All(); !slices.Equal(got, []api.Mark{clean(a(3))}) {
		t.Fatalf("All is %v", got)
	}
	edges(3)
	d.Set(a(3), nil)
	k.Touch(a(1), true)
	if got := k.All(); !slices.Equal(got, []api.Mark{due(a(1)), due(a(2)), clean(a(3))}) {
		t.Fatalf("All is %v", got)
	}
	edges(1)
}

// P19.2, 1.: a touched cell, on which nothing depends, from each state: with formula it is Due, without it has none.
func TestTouched(t *testing.T) {
	for _, c := range goodCells() {
		for _, state := range []int{none, api.Clean, api.Maybe, api.Due} {
			p := newPlay(t)
			p.bring([]api.Cell{c, a(7)}, []int{state, api.Clean})
			p.touch(c, true)
			if now, is := p.k.State(c); now != api.Due || !is {
				t.Fatalf("%v had the state %d; with formula it has %d, %v", c, state, now, is)
			}
			p = newPlay(t)
			p.bring([]api.Cell{c, a(7)}, []int{state, api.Clean})
			p.touch(c, false)
			p.has(0, clean(a(7)))
			p.touch(c, false)
			p.has(0, clean(a(7)))
		}
	}
}

// P19.2, 2.: a direct dependent in each state is Due; it is put on the stack if it was Clean, or had none, so that who depends on it is Maybe then.
func TestDirect(t *testing.T) {
	for _, formula := range []bool{false, true} {
		for _, c := range []struct {
			state, peak int
			above       api.Mark
		}{{none, 1, maybe(a(3))}, {api.Clean, 1, maybe(a(3))}, {api.Maybe, 0, clean(a(3))}, {api.Due, 0, clean(a(3))}} {
			p := newPlay(t)
			p.bring([]api.Cell{a(2), a(3)}, []int{c.state, api.Clean})
			p.set(a(2), one(a(1)))
			p.set(a(3), one(a(2)))
			p.touch(a(1), formula)
			want := []api.Mark{due(a(2)), c.above}
			if formula {
				want = append([]api.Mark{due(a(1))}, want...)
			}
			p.has(c.peak, want...)
		}
	}
}

// P19.2, 3.: one further away is Maybe, and put on the stack, if it was Clean, or had no state; else it stays as it was, and the push stops there.
func TestFurther(t *testing.T) {
	for _, c := range []struct {
		state int
		want  [2]api.Mark
	}{
		{none, [2]api.Mark{maybe(a(3)), maybe(a(4))}},
		{api.Clean, [2]api.Mark{maybe(a(3)), maybe(a(4))}},
		{api.Maybe, [2]api.Mark{maybe(a(3)), clean(a(4))}},
		{api.Due, [2]api.Mark{due(a(3)), clean(a(4))}},
	} {
		p := newPlay(t)
		p.bring([]api.Cell{a(2), a(3), a(4)}, []int{api.Clean, c.state, api.Clean})
		p.set(a(2), one(a(1)))
		p.set(a(3), one(a(2)))
		p.set(a(4), one(a(3)))
		p.touch(a(1), false)
		p.has(1, due(a(2)), c.want[0], c.want[1])
	}
}

// P19.2: a cell that is both direct and further away is Due, and on the stack once: whether it stands ahead of the one over which it is further, or behind it.
func TestDirectAndFurther(t *testing.T) {
	for _, ends := range [][2]api.Cell{{cell(2, 2), cell(5, 1)}, {cell(5, 1), cell(2, 2)}} {
		middle, end := ends[0], ends[1]
		for _, state := range []int{none, api.Clean, api.Maybe, api.Due} {
			p := newPlay(t)
			p.bring([]api.Cell{middle, end}, []int{api.Clean, state})
			p.set(middle, one(a(1)))
			p.set(end, one(middle), many(a(1), cell(1, 3)))
			p.touch(a(1), false)
			want := []api.Mark{due(middle), due(end)}
			slices.SortFunc(want, func(a, b api.Mark) int { return rowByRow(a.Cell, b.Cell) })
			if state <= api.Clean {
				p.has(2, want...)
			} else {
				p.has(1, want...)
			}
		}
	}
}

// P19.3: a cell that is cleaned is Clean, from each state; one without a state has none still. Others, and Peak, stay as they are.
func TestClean(t *testing.T) {
	cells := []api.Cell{a(5), a(6), a(7), a(8)}
	p := newPlay(t)
	p.bring(cells, []int{none, api.Clean, api.Maybe, api.Due})
	p.set(a(10), one(a(9)))
	p.set(a(11), one(a(9)))
	p.touch(a(9), false)
	p.has(2, clean(a(6)), maybe(a(7)), due(a(8)), due(a(10)), due(a(11)))
	p.clean(a(5))
	p.has(2, clean(a(6)), maybe(a(7)), due(a(8)), due(a(10)), due(a(11)))
	p.clean(a(6))
	p.clean(a(7))
	p.has(2, clean(a(6)), clean(a(7)), due(a(8)), due(a(10)), due(a(11)))
	p.clean(a(8))
	p.clean(a(8))
	p.has(2, clean(a(6)), clean(a(7)), clean(a(8)), due(a(10)), due(a(11)))
	p.clean(a(10), a(9))
	p.has(2, clean(a(6)), clean(a(7)), clean(a(8)), clean(a(10)), due(a(11)))
	p.clean(wrongCells()...)
	p.has(2, clean(a(6)), clean(a(7)), clean(a(8)), clean(a(10)), due(a(11)))
}

// P19.3: to clean a cell does not clean who depends on it, nor what it depends on.
func TestCleanOne(t *testing.T) {
	for row := 2; row <= 6; row++ {
		p := newPlay(t)
		for at := 2; at <= 6; at++ {
			p.put(a(at), one(a(at-1)))
		}
		p.clean(a(row))
		for at := 2; at <= 6; at++ {
			if p.holds(a(at)) != (at == row) {
				t.Errorf("behind Clean(%v): %v", a(row), p.k.All())
			}
		}
	}
}

// P19.3: All tells states row by row, by Row and then by Col, whatever the order in which they came.
func TestAllInOrder(t *testing.T) {
	cells := slices.Concat(goodCells(), cross([]int{9, 10, 11, 100}, []int{9, 10, 11, 100}))
	for seed := range int64(20) {
		p := newPlay(t)
		for i, c := range mixed(seed, cells) {
			p.touch(c, true)
			if i%3 == 0 {
				p.clean(c)
			}
		}
		got := p.k.All()
		if len(got) != len(cells) || !slices.IsSortedFunc(got, func(a, b api.Mark) int { return rowByRow(a.Cell, b.Cell) }) {
			t.Fatalf("All is %v", got)
		}
	}
}

// P19.4: Peak is of the last Touch alone: not of a greater one ahead of it.
func TestPeakOfLast(t *testing.T) {
	p := newPlay(t)
	for col := 2; col <= 9; col++ {
		p.put(cell(1, col), one(a(1)))
	}
	p.put(a(3), one(a(2)))
	p.cleanAll()
	for range 3 {
		p.touch(a(1), false)
		p.has(8, due(cell(1, 2)), due(cell(1, 3)), due(cell(1, 4)), due(cell(1, 5)), due(cell(1, 6)), due(cell(1, 7)), due(cell(1, 8)), due(cell(1, 9)), clean(a(3)))
		p.touch(a(2), false)
		if p.k.Peak() != 1 {
			t.Fatalf("Peak is %d", p.k.Peak())
		}
		p.touch(a(2), false)
		if p.k.Peak() != 0 {
			t.Fatalf("Peak is %d", p.k.Peak())
		}
		p.cleanAll()
	}
}

// P19.2, 3., P19.4: the last one is taken off first: the other way round, and if those of one cell were put there from the last to the first, more would stand there at most.
func TestLastFirst(t *testing.T) {
	p, wide, narrow := newPlay(t), cell(2, 5), cell(3, 2)
	p.set(wide, one(a(1)))
	p.set(narrow, one(a(1)))
	for col := 6; col <= 9; col++ {
		p.set(cell(9, col), one(wide))
	}
	p.set(cell(8, 1), one(narrow))
	p.touch(a(1), false)
	if p.k.Peak() != 4 {
		t.Errorf("wide ahead of narrow: Peak is %d", p.k.Peak())
	}
	p.cleanAll()
	// Now the narrow one stands ahead, and waits while the wide one's are there.
	p.set(wide)
	p.set(cell(4, 1), one(a(1)))
	for col := 6; col <= 9; col++ {
		p.set(cell(9, col), one(cell(4, 1)))
	}
	p.touch(a(1), false)
	if p.k.Peak() != 5 {
		t.Errorf("narrow ahead of wide: Peak is %d", p.k.Peak())
	}
}

// P19.2, 3.: also of a cell that is taken off, the direct dependents are put there row by row.
func TestRowByRowFurther(t *testing.T) {
	p := newPlay(t)
	p.set(a(2), one(a(1)))
	wide, narrow := cell(3, 200), cell(40, 2) // row by row, not column by column
	p.set(wide, one(a(2)))
	p.set(narrow, one(a(2)))
	for row := 100; row < 110; row++ {
		p.set(a(row), one(wide))
	}
	p.set(a(99), one(narrow))
	p.touch(a(1), false)
	if p.k.Peak() != 10 {
		t.Errorf("Peak is %d", p.k.Peak())
	}
}

// P19.2: a tree, each cell of which has two that refer to it: row by row Peak is how deep it is.
func TestTree(t *testing.T) {
	p := newPlay(t)
	for n := 2; n < 64; n++ {
		p.put(a(n), one(a(n/2)))
	}
	p.cleanAll()
	p.touch(a(1), false)
	for n := 2; n < 64; n++ {
		want := api.Maybe
		if n < 4 {
			want = api.Due
		}
		if state, _ := p.k.State(a(n)); state != want {
			t.Errorf("State(%v) = %d", a(n), state)
		}
	}
	if p.k.Peak() != 6 {
		t.Errorf("Peak is %d", p.k.Peak())
	}
	p.cleanAll()
	p.touch(a(5), true)
	for n := 2; n < 64; n++ {
		want := map[int]int{5: api.Due, 10: api.Due, 11: api.Due, 20: api.Maybe, 21: api.Maybe, 22: api.Maybe, 23: api.Maybe, 40: api.Maybe, 41: api.Maybe, 42: api.Maybe, 43: api.Maybe, 44: api.Maybe, 45: api.Maybe, 46: api.Maybe, 47: api.Maybe}[n]
		if state, _ := p.k.State(a(n)); state != want {
			t.Errorf("State(%v) = %d", a(n), state)
		}
	}
}

// P19.2: diamonds in a row, each cell reached on many ways: each is put on the stack once, and one of each diamond waits there.
func TestDiamonds(t *testing.T) {
	p := newPlay(t)
	for row := 2; row <= 60; row += 2 {
		p.put(cell(row, 1), one(a(row-1)))
		p.put(cell(row, 2), one(a(row-1)))
		p.put(a(row+1), one(cell(row, 2)), one(cell(row, 1)))
	}
	p.cleanAll()
	p.touch(a(1), false)
	if p.k.Peak() != 31 || len(p.m.pushed) != 90 {
		t.Errorf("Peak is %d, %d were put there", p.k.Peak(), len(p.m.pushed))
	}
	p.touch(a(1), false)
	if p.k.Peak() != 0 {
		t.Errorf("once more: Peak is %d", p.k.Peak())
	}
}

// P19.2: who refers to a rectangle is marked by each cell in it, corners and edges, and by none beside it.
func TestRectangles(t *testing.T) {
	p, by, above := newPlay(t), cell(64, 9), cell(1, 256)
	p.put(by, many(cell(63, 3), cell(66, 5)))
	p.put(above, many(by, by))
	for _, c := range cross([]int{62, 63, 64, 65, 66, 67}, []int{2, 3, 4, 5, 6}) {
		p.cleanAll()
		p.touch(c, false)
		if c.Row >= 63 && c.Row <= 66 && c.Col >= 3 && c.Col <= 5 {
			p.has(1, maybe(above), due(by))
		} else {
			p.has(0, clean(above), clean(by))
		}
	}
}

// P19.2 to P19.7: each Touch of three cells that refer to one another, and to themselves, in every way, with every row of states.
func TestEveryGraph(t *testing.T) {
	cells := []api.Cell{a(1), cell(1, 2), a(2)}
	for graph := range 512 {
		for first := range 64 {
			for touched := range 6 {
				p := newPlay(t)
				p.bring(cells, []int{none + first%4, none + first/4%4, none + first/16})
				p.draw(cells, graph)
				p.touch(cells[touched/2], touched%2 == 0)
			}
		}
	}
}

// draw gives each of some cells references to those of them for which a bit is set.
func (p *play) draw(cells []api.Cell, graph int) {
	p.t.Helper()
	for _, c := range cells {
		var refs []api.Ref
		for _, to := range cells {
			if graph&1 == 1 {
				refs = append(refs, one(to))
			}
			graph >>= 1
		}
		p.set(c, refs...)
	}
}

// P19.2, P19.4: each Touch of four cells that refer to one another in every way, all without states, and then once more, all Clean.
func TestEveryGraphOfFour(t *testing.T) {
	cells := []api.Cell{a(1), cell(1, 2), a(2), cell(2, 2)}
	for graph := range 1 << 16 {
		if graph&0x8421 != 0 {
			continue // a cell that refers to itself
		}
		p := newPlay(t)
		p.draw(cells, graph)
		p.touch(cells[graph%4], graph/4%2 == 0)
		p.cleanAll()
		p.touch(cells[(graph/8+graph/64)%4], false)
	}
}
