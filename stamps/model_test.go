package stamps

import (
	"math"
	"slices"
	"testing"

	"oriel/api"
)

func cell(row, col int) api.Cell { return api.Cell{Row: row, Col: col} }

// a is the cell of column A at a row.
func a(row int) api.Cell { return cell(row, 1) }

// cross are the cells of all these rows and columns, row by row if they are in order.
func cross(rows, cols []int) []api.Cell {
	var list []api.Cell
	for _, row := range rows {
		for _, col := range cols {
			list = append(list, cell(row, col))
		}
	}
	return list
}

// goodCells are cells that may be: at both ends of the sheet, and some between.
func goodCells() []api.Cell {
	return cross([]int{1, 2, 64, 65, 4095, 4096}, []int{1, 2, 255, 256})
}

// wrongCells are cells that may not be: for their row, their column, or both.
func wrongCells() []api.Cell {
	rows := []int{math.MinInt, -4096, -1, 0, 4097, 8192, 1<<32 + 1, math.MaxInt}
	cols := []int{math.MinInt, -256, -1, 0, 257, 512, 1<<32 + 1, math.MaxInt}
	return slices.Concat(cross([]int{1, 7, 4096}, cols), cross(rows, []int{1, 7, 256}), cross(rows, cols))
}

// isCell tells whether a cell may be, by the words of chapter 3.
func isCell(c api.Cell) bool { return c.Row >= 1 && c.Row <= 4096 && c.Col >= 1 && c.Col <= 256 }

// model is a clock by the chapter's words: a plain list of cells with their stamps, in the order in which they came.
type model struct {
	most, last, turns int
	list              []stamped
}

type stamped struct {
	cell          api.Cell
	changed, seen int
}

// at is the place of a cell in the list, -1 if it has no stamps.
func (m *model) at(c api.Cell) int {
	return slices.IndexFunc(m.list, func(s stamped) bool { return s.cell == c })
}

// stamp gives a cell stamps, if it has none, and answers its place.
func (m *model) stamp(c api.Cell) int {
	if m.at(c) < 0 {
		m.list = append(m.list, stamped{cell: c})
	}
	return m.at(c)
}

// numbers are the Changed numbers above 0 of all cells but c, in their order.
func (m *model) numbers(c api.Cell) []int {
	var list []int
	for _, s := range m.list {
		if s.cell != c && s.changed > 0 {
			list = append(list, s.changed)
		}
	}
	slices.Sort(list)
	return list
}

func (m *model) change(c api.Cell) api.Errno {
	if !isCell(c) {
		return api.ErrAddr
	}
	if len(m.numbers(c)) >= m.most-1 {
		return api.ErrStamp
	}
	if m.last+1 == m.most {
		m.renumber(c)
	}
	m.last++
	m.list[m.stamp(c)].changed = m.last
	return api.OK
}

func (m *model) renumber(c api.Cell) {
	numbers := m.numbers(c)
	for i := range m.list {
		s := &m.list[i]
		if s.cell == c {
			s.changed = 0
		}
		if s.changed > 0 {
			s.changed = slices.Index(numbers, s.changed) + 1
		}
		count := 0
		for _, n := range numbers {
			if n <= s.seen {
				count++
			}
		}
		s.seen = count
	}
	m.last = len(numbers)
	m.turns++
}

func (m *model) see(c api.Cell) {
	if isCell(c) {
		m.list[m.stamp(c)].seen = m.last
	}
}

func (m *model) drop(c api.Cell) {
	m.list = slices.DeleteFunc(m.list, func(s stamped) bool { return s.cell == c })
}

func (m *model) get(c api.Cell) (api.Stamps, bool) {
	at := m.at(c)
	if at < 0 {
		return api.Stamps{}, false
	}
	return api.Stamps{Changed: m.list[at].changed, Seen: m.list[at].seen}, true
}

func (m *model) newer(p, x api.Cell) bool {
	of, _ := m.get(p)
	by, _ := m.get(x)
	return of.Changed > by.Seen
}

// newClock is a clock that must be.
func newClock(t *testing.T, most int) *Clock {
	t.Helper()
	k, code := New(most)
	if k == nil || code != api.OK {
		t.Fatalf("New(%d) = %v, %d", most, k, code)
	}
	return k
}

// play is a clock and a model of it, that are told the same, and asked of these cells behind each call.
type play struct {
	t     *testing.T
	k     *Clock
	m     *model
	cells []api.Cell
}

func newPlay(t *testing.T, most int, cells ...api.Cell) *play {
	t.Helper()
	p := &play{t, newClock(t, most), &model{most: most}, cells}
	p.check("New")
	return p
}

// check fails the test, unless the clock tells of each cell, of each two, and of itself what the model does.
func (p *play) check(call string) {
	p.t.Helper()
	if p.k.Last() != p.m.last || p.k.Turns() != p.m.turns {
		p.t.Fatalf("%s, most %d: Last %d, Turns %d; want %d, %d", call, p.m.most, p.k.Last(), p.k.Turns(), p.m.last, p.m.turns)
	}
	for _, c := range p.cells {
		got, is := p.k.Get(c)
		want, wantIs := p.m.get(c)
		if got != want || is != wantIs {
			p.t.Fatalf("%s, most %d: Get(%v) = %v, %v; want %v, %v", call, p.m.most, c, got, is, want, wantIs)
		}
		for _, x := range p.cells {
			if got, want := p.k.Newer(c, x), p.m.newer(c, x); got != want {
				p.t.Fatalf("%s, most %d: Newer(%v, %v) = %v", call, p.m.most, c, x, got)
			}
		}
	}
}

// change, see and drop tell both of it, and check all behind it.
func (p *play) change(c api.Cell) api.Errno {
	p.t.Helper()
	got, want := p.k.Change(c), p.m.change(c)
	if got != want {
		p.t.Fatalf("Change(%v), most %d: %d; want %d", c, p.m.most, got, want)
	}
	p.check("Change")
	return got
}

func (p *play) see(c api.Cell) {
	p.t.Helper()
	p.k.See(c)
	p.m.see(c)
	p.check("See")
}

func (p *play) drop(c api.Cell) {
	p.t.Helper()
	p.k.Drop(c)
	p.m.drop(c)
	p.check("Drop")
}

// changes tells of changes that must not be refused.
func (p *play) changes(cells ...api.Cell) {
	p.t.Helper()
	for _, c := range cells {
		if code := p.change(c); code != api.OK {
			p.t.Fatalf("Change(%v), most %d: %d", c, p.m.most, code)
		}
	}
}

// has fails the test, unless a cell has these stamps.
func has(t *testing.T, k *Clock, c api.Cell, changed, seen int) {
	t.Helper()
	if s, is := k.Get(c); !is || s != (api.Stamps{Changed: changed, Seen: seen}) {
		t.Fatalf("Get(%v) = %v, %v; want {%d %d}", c, s, is, changed, seen)
	}
}

// hasNone fails the test, unless a cell has no stamps.
func hasNone(t *testing.T, k *Clock, c api.Cell) {
	t.Helper()
	if s, is := k.Get(c); is || s != (api.Stamps{}) {
		t.Fatalf("Get(%v) = %v, %v; want none", c, s, is)
	}
}

// tells fails the test, unless a clock has this Last and these Turns.
func tells(t *testing.T, k *Clock, last, turns int) {
	t.Helper()
	if k.Last() != last || k.Turns() != turns {
		t.Fatalf("Last %d, Turns %d; want %d, %d", k.Last(), k.Turns(), last, turns)
	}
}

// state is all that a clock keeps, as values.
type state struct {
	most, last, turns int
	cells             map[api.Cell]api.Stamps
}

func stateOf(k *Clock) state {
	s := state{k.most, k.last, k.turns, map[api.Cell]api.Stamps{}}
	for c, of := range k.cells {
		s.cells[c] = *of
	}
	return s
}
