package marks

import (
	"fmt"
	"math/rand"
	"slices"
	"testing"

	"oriel/api"
)

// holds tells whether a cell's state is Clean.
func (p *play) holds(c api.Cell) bool {
	state, is := p.k.State(c)
	return is && state == api.Clean
}

// formulas are the cells that have a state, and those that refer to something: such a one is taken as one that has a formula, though nobody touched it yet.
func (p *play) formulas() []api.Cell {
	list := p.m.referring()
	for _, s := range p.k.All() {
		list = append(list, s.Cell)
	}
	slices.SortFunc(list, rowByRow)
	return slices.Compact(list)
}

// upwards tells whether each direct dependent of a formula's cell that is not Clean is not Clean.
func (p *play) upwards() bool {
	for _, x := range p.formulas() {
		if !p.holds(x) && slices.ContainsFunc(p.m.direct(x), p.holds) {
			return false
		}
	}
	return true
}

// dependents are the cells that have a cell as a precedent.
func (p *play) dependents(c api.Cell) []api.Cell {
	list := p.m.direct(c)
	for i := 0; i < len(list); i++ {
		for _, x := range p.m.direct(list[i]) {
			if !slices.Contains(list, x) {
				list = append(list, x)
			}
		}
	}
	return list
}

// checkUpwards fails the test, unless P19.5 holds behind a Touch ahead of which all was upwards.
func (p *play) checkUpwards(c api.Cell, formula bool) {
	p.t.Helper()
	if !p.upwards() {
		p.t.Fatalf("behind Touch(%v, %v) something that depends on what is not Clean is Clean: %s", c, formula, begin(p.k.All()))
	}
	for _, x := range p.m.direct(c) {
		state, is := p.k.State(x)
		if passed := x == c && !formula; passed == is || is && state != api.Due {
			p.t.Fatalf("behind Touch(%v, %v) its direct dependent %v has the state %d, %v", c, formula, x, state, is)
		}
	}
	for _, x := range p.dependents(c) {
		if p.holds(x) {
			p.t.Fatalf("behind Touch(%v, %v) its dependent %v is Clean", c, formula, x)
		}
	}
}

// checkRoom fails the test, unless P19.6 holds.
func (p *play) checkRoom() {
	p.t.Helper()
	if most := len(p.m.referring()); p.k.Peak() > most {
		p.t.Fatalf("%d cells stood on the stack, of %d that refer to something", p.k.Peak(), most)
	}
	if once := slices.Compact(slices.SortedFunc(slices.Values(p.m.pushed), rowByRow)); len(once) != len(p.m.pushed) {
		p.t.Fatalf("a cell stood twice on the stack: %s", begin(p.m.pushed))
	}
}

// checkStops fails the test, unless P19.7 holds of what the model put on the stack.
func (p *play) checkStops(ahead []api.Mark) {
	p.t.Helper()
	for _, c := range p.m.pushed {
		if at := slices.IndexFunc(ahead, func(s api.Mark) bool { return s.Cell == c }); at >= 0 && ahead[at].State != api.Clean {
			p.t.Fatalf("%v was put on the stack, though its state was %d", c, ahead[at].State)
		}
	}
}

// anyRefs are some references, to cells and rectangles of a grid of so many rows and columns.
func anyRefs(rnd *rand.Rand, rows, cols int) []api.Ref {
	anyCell := func() api.Cell { return cell(1+rnd.Intn(rows), 1+rnd.Intn(cols)) }
	var refs []api.Ref
	for range rnd.Intn(4) {
		c := anyCell()
		switch rnd.Intn(5) {
		case 0:
			to := anyCell()
			refs = append(refs, many(cell(min(c.Row, to.Row), min(c.Col, to.Col)), cell(max(c.Row, to.Row), max(c.Col, to.Col))))
		case 1:
			refs = append(refs, many(c, c))
		default:
			refs = append(refs, one(c))
		}
	}
	return refs
}

// look cleans a cell and all its precedents, as a look at it does.
func (p *play) look(c api.Cell) {
	p.t.Helper()
	for _, s := range p.m.sorted() {
		if s.Cell == c || slices.Contains(p.dependents(s.Cell), c) {
			p.clean(s.Cell)
		}
	}
}

// P19.5: in a row of what a sheet does (formulas come, change and go, cells are looked at), rings among them, what depends on what is not Clean is not Clean at any time, and each Touch is as the chapter's words have it.
func TestUpwardsAlways(t *testing.T) {
	for seed := range int64(30) {
		rnd, p := rand.New(rand.NewSource(seed)), newPlay(t)
		rows, cols := 2+rnd.Intn(5), 1+rnd.Intn(4)
		for range 150 {
			c := cell(1+rnd.Intn(rows), 1+rnd.Intn(cols))
			switch rnd.Intn(6) {
			case 0, 1:
				p.put(c, anyRefs(rnd, rows, cols)...)
			case 2:
				p.drop(c)
			default:
				p.look(c)
			}
			if !p.upwards() {
				t.Fatalf("seed %d: something that depends on what is not Clean is Clean: %s", seed, begin(p.k.All()))
			}
		}
	}
}

// P19.2 to P19.7: in a row of anything (references that change without a Touch, Cleans of any cell, Touches that tell the marks otherwise than the references are, wrong cells), each Touch is as the chapter's words have it; P19.5 behind it, where it held ahead.
func TestAnything(t *testing.T) {
	held := 0
	for seed := range int64(60) {
		rnd, p := rand.New(rand.NewSource(seed)), newPlay(t)
		rows, cols := 1+rnd.Intn(5), 1+rnd.Intn(5)
		anyCell := func() api.Cell {
			if rnd.Intn(20) == 0 {
				return wrongCells()[rnd.Intn(len(wrongCells()))]
			}
			return cell(1+rnd.Intn(rows), 1+rnd.Intn(cols))
		}
		for range 200 {
			switch c := anyCell(); rnd.Intn(8) {
			case 0, 1:
				if isCell(c) {
					p.set(c, anyRefs(rnd, rows, cols)...)
				}
			case 2:
				p.cleanAll()
			case 3, 4:
				p.clean(c)
			default:
				if p.upwards() {
					held++
				}
				p.touch(c, rnd.Intn(2) == 0)
			}
		}
	}
	if held < 500 {
		t.Errorf("P19.5 was asked only %d times", held)
	}
}

// What the words of P19.2 come to, told without a stack: of what holds ahead, all that is reached through what holds is Maybe, and each direct dependent is Due.
func TestAsSets(t *testing.T) {
	for seed := range int64(200) {
		rnd, p := rand.New(rand.NewSource(seed)), newPlay(t)
		grid := cross([]int{1, 2, 3}, []int{1, 2, 3, 4})
		var states []int
		for range grid {
			states = append(states, none+rnd.Intn(4)*rnd.Intn(2))
		}
		p.bring(grid, states)
		for _, c := range grid {
			p.set(c, anyRefs(rnd, 3, 4)...)
		}
		c, formula := grid[rnd.Intn(len(grid))], seed%2 == 0
		want := p.reached(c, formula)
		p.touch(c, formula)
		if got := p.k.All(); !slices.Equal(got, want) {
			t.Fatalf("seed %d: All is %v; want %v", seed, got, want)
		}
	}
}

// reached are all states behind a Touch, row by row, by rounds over all cells.
func (p *play) reached(c api.Cell, formula bool) []api.Mark {
	open := func(x api.Cell) bool {
		state, is := p.k.State(x)
		return x != c && (!is || state == api.Clean)
	}
	after := map[api.Cell]int{}
	for _, s := range p.k.All() {
		after[s.Cell] = s.State
	}
	delete(after, c)
	if formula {
		after[c] = api.Due
	}
	through := slices.DeleteFunc(p.m.direct(c), func(x api.Cell) bool { return !open(x) })
	for grown := true; grown; {
		grown = false
		for _, x := range slices.Clone(through) {
			for _, y := range p.m.direct(x) {
				if open(y) && !slices.Contains(through, y) {
					through, grown = append(through, y), true
				}
			}
		}
	}
	for _, x := range through {
		after[x] = api.Maybe
	}
	for _, x := range p.m.direct(c) {
		if x != c {
			after[x] = api.Due
		}
	}
	var list []api.Mark
	for x, state := range after {
		list = append(list, api.Mark{Cell: x, State: state})
	}
	slices.SortFunc(list, func(a, b api.Mark) int { return rowByRow(a.Cell, b.Cell) })
	return list
}

// P19.6: Peak at its most: each cell that refers to something stands on the stack at one time, and no more than these.
func TestPeakAtMost(t *testing.T) {
	for n := 1; n <= 40; n++ {
		p := newPlay(t)
		for row := 2; row <= n+1; row++ {
			p.set(a(row), one(a(1)), many(a(1), a(n+1)))
		}
		p.touch(a(1), n%2 == 0)
		if p.k.Peak() != n {
			t.Fatalf("%d cells refer to A1 and to one another: Peak is %d", n, p.k.Peak())
		}
		p.cleanAll()
		// A2 refers to all of them too: it is touched itself, and does not stand there.
		p.touch(a(2), true)
		if p.k.Peak() != n-1 {
			t.Fatalf("%d cells refer to one another: Peak is %d", n, p.k.Peak())
		}
	}
}

// P19.7: what is behind a cell that was not Clean stays as it was, if it is not reached on another way: the push stops there.
func TestStops(t *testing.T) {
	for _, first := range []int{none, api.Clean, api.Maybe, api.Due} {
		for _, second := range []int{none, api.Clean, api.Maybe, api.Due} {
			p := newPlay(t)
			p.bring([]api.Cell{a(2), a(3), a(4)}, []int{first, second, api.Clean})
			p.set(a(2), one(a(1)))
			p.set(a(3), one(a(2)))
			p.set(a(4), one(a(3)))
			p.touch(a(1), false)
			name := fmt.Sprintf("A2 %d, A3 %d", first, second)
			last, _ := p.k.State(a(4))
			if through := first <= api.Clean && second <= api.Clean; through != (last == api.Maybe) || !through && last != api.Clean {
				t.Errorf("%s: A4 has the state %d", name, last)
			}
			if state, is := p.k.State(a(2)); state != api.Due || !is {
				t.Errorf("%s: A2 has the state %d, %v", name, state, is)
			}
			want := 0
			if first <= api.Clean {
				want = 1
			}
			if p.k.Peak() != want {
				t.Errorf("%s: Peak is %d", name, p.k.Peak())
			}
		}
	}
}

// P19.7: behind a first Touch, a second one of the same cell, or of one ahead of it, puts no cell on the stack that the first one marked.
func TestTouchedAgain(t *testing.T) {
	p := newPlay(t)
	for row := 3; row <= 40; row++ {
		p.put(a(row), one(a(row-1)), one(a(row/2+1)))
	}
	p.cleanAll()
	p.touch(a(5), true)
	first := p.k.All()
	p.touch(a(5), true)
	p.has(0, first...)
	p.clean(a(3), a(4))
	p.touch(a(2), false)
	if p.k.Peak() == 0 || !slices.Equal(p.k.All()[3:], first[3:]) {
		t.Errorf("Peak %d, All %v; behind the first Touch %v", p.k.Peak(), p.k.All(), first)
	}
}
