package marks

import (
	"fmt"
	"math"
	"math/rand"
	"slices"
	"testing"

	"oriel/api"
	"oriel/deps"
)

func cell(row, col int) api.Cell { return api.Cell{Row: row, Col: col} }

// a is the cell of column A at a row.
func a(row int) api.Cell { return cell(row, 1) }

// cross are the cells of all these rows and columns, row by row if they are in order.
func cross(rows, cols []int) []api.Cell {
	var list []api.Cell
	for _, row := range rows {
		for _, col := range cols {
			list = append(list, cell(row, col))
		}
	}
	return list
}

// goodCells are cells that may be: at both ends of the sheet, and some between, row by row.
func goodCells() []api.Cell {
	return cross([]int{1, 2, 64, 65, 4095, 4096}, []int{1, 2, 255, 256})
}

// wrongCells are cells that may not be: for their row, their column, or both.
func wrongCells() []api.Cell {
	rows := []int{math.MinInt, -4096, -1, 0, 4097, 8192, 1<<32 + 1, math.MaxInt}
	cols := []int{math.MinInt, -256, -1, 0, 257, 512, 1<<32 + 1, math.MaxInt}
	return slices.Concat(cross([]int{1, 7, 4096}, cols), cross(rows, []int{1, 7, 256}), cross(rows, cols))
}

// isCell tells whether a cell may be, by the words of chapter 3.
func isCell(c api.Cell) bool { return c.Row >= 1 && c.Row <= 4096 && c.Col >= 1 && c.Col <= 256 }

// one is a reference to a cell by itself, many one to a rectangle by its corners.
func one(c api.Cell) api.Ref {
	return api.Ref{Rect: api.Rect{Top: c.Row, Left: c.Col, Bottom: c.Row, Right: c.Col}}
}
func many(from, to api.Cell) api.Ref {
	return api.Ref{Many: true, Rect: api.Rect{Top: from.Row, Left: from.Col, Bottom: to.Row, Right: to.Col}}
}

// ones are references to cells, each by itself.
func ones(cells ...api.Cell) []api.Ref {
	var list []api.Ref
	for _, c := range cells {
		list = append(list, one(c))
	}
	return list
}

// rowByRow holds cells against each other by the words of DOC.md.
func rowByRow(a, b api.Cell) int {
	return slices.Compare([]int{a.Row, a.Col}, []int{b.Row, b.Col})
}

// mixed is a list in another order.
func mixed[T any](seed int64, list []T) []T {
	list = slices.Clone(list)
	rand.New(rand.NewSource(seed)).Shuffle(len(list), func(i, j int) { list[i], list[j] = list[j], list[i] })
	return list
}

// begin is a list as text, a long one's first part alone.
func begin[T any](list []T) string { return fmt.Sprint(list[:min(len(list), 20)]) }

// model is marks, and what they stand on, by the chapter's words: a plain list of who refers to what, and one of states, each in the order in which they came.
type model struct {
	edges  []api.Edge
	states []api.Mark
	peak   int
	pushed []api.Cell // what the last touch put on the stack
}

// set gives a cell its references, whatever it had.
func (m *model) set(c api.Cell, refs []api.Ref) {
	m.edges = slices.DeleteFunc(m.edges, func(e api.Edge) bool { return e.From == c })
	for _, ref := range refs {
		m.edges = append(m.edges, api.Edge{From: c, To: ref})
	}
}

// direct are the cells with a reference in which a cell is, row by row, each once.
func (m *model) direct(c api.Cell) []api.Cell {
	var list []api.Cell
	for _, e := range m.edges {
		r := e.To.Rect
		if r.Top <= c.Row && c.Row <= r.Bottom && r.Left <= c.Col && c.Col <= r.Right {
			list = append(list, e.From)
		}
	}
	slices.SortFunc(list, rowByRow)
	return slices.Compact(list)
}

// referring are the cells that refer to something, row by row.
func (m *model) referring() []api.Cell {
	var list []api.Cell
	for _, e := range m.edges {
		list = append(list, e.From)
	}
	slices.SortFunc(list, rowByRow)
	return slices.Compact(list)
}

// at is the place of a cell among the states, -1 if it has none.
func (m *model) at(c api.Cell) int {
	return slices.IndexFunc(m.states, func(s api.Mark) bool { return s.Cell == c })
}

func (m *model) state(c api.Cell) (int, bool) {
	if at := m.at(c); at >= 0 {
		return m.states[at].State, true
	}
	return 0, false
}

func (m *model) put(c api.Cell, state int) {
	if at := m.at(c); at >= 0 {
		m.states[at].State = state
		return
	}
	m.states = append(m.states, api.Mark{Cell: c, State: state})
}

func (m *model) forget(c api.Cell) {
	m.states = slices.DeleteFunc(m.states, func(s api.Mark) bool { return s.Cell == c })
}

func (m *model) clean(c api.Cell) {
	if m.at(c) >= 0 {
		m.put(c, api.Clean)
	}
}

// touch is P19.2, sentence by sentence.
func (m *model) touch(c api.Cell, formula bool) {
	m.peak, m.pushed = 0, nil
	if !isCell(c) {
		return
	}
	if formula {
		m.put(c, api.Due)
	} else {
		m.forget(c)
	}
	var stack []api.Cell
	push := func(x api.Cell) {
		stack = append(stack, x)
		m.peak = max(m.peak, len(stack))
		m.pushed = append(m.pushed, x)
	}
	for _, x := range m.direct(c) {
		if x == c && !formula {
			continue
		}
		switch state, is := m.state(x); {
		case !is, state == api.Clean:
			m.put(x, api.Due)
			push(x)
		case state == api.Maybe:
			m.put(x, api.Due)
		}
	}
	for len(stack) > 0 {
		last := stack[len(stack)-1]
		stack = stack[:len(stack)-1]
		for _, x := range m.direct(last) {
			if x == c && !formula {
				continue
			}
			if state, is := m.state(x); !is || state == api.Clean {
				m.put(x, api.Maybe)
				push(x)
			}
		}
	}
}

// sorted are all states, row by row.
func (m *model) sorted() []api.Mark {
	list := slices.Clone(m.states)
	slices.SortFunc(list, func(a, b api.Mark) int { return rowByRow(a.Cell, b.Cell) })
	return list
}

// play is marks over references, and a model of both, that are told the same.
type play struct {
	t *testing.T
	d *deps.Deps
	k *Marks
	m *model
}

func newPlay(t *testing.T) *play {
	t.Helper()
	d := deps.New()
	k := New(d)
	if k == nil {
		t.Fatal("there are no marks")
	}
	p := &play{t, d, k, &model{}}
	p.check("New")
	return p
}

// check fails the test, unless the marks tell what the model does.
func (p *play) check(call string) {
	p.t.Helper()
	if got, want := p.k.All(), p.m.sorted(); !slices.Equal(got, want) {
		p.t.Fatalf("%s: All tells %d states %s; want %d: %s", call, len(got), begin(got), len(want), begin(want))
	}
	if got := p.k.Peak(); got != p.m.peak {
		p.t.Fatalf("%s: Peak is %d; want %d", call, got, p.m.peak)
	}
	for _, s := range p.m.states {
		if state, is := p.k.State(s.Cell); state != s.State || !is {
			p.t.Fatalf("%s: State(%v) = %d, %v; want %d", call, s.Cell, state, is, s.State)
		}
	}
	for _, c := range []api.Cell{a(1), a(2), cell(1, 2), cell(4096, 256), a(0), cell(9, 257)} {
		state, is := p.k.State(c)
		if want, wantIs := p.m.state(c); state != want || is != wantIs {
			p.t.Fatalf("%s: State(%v) = %d, %v; want %d, %v", call, c, state, is, want, wantIs)
		}
	}
}

// set tells the references alone: the marks are not told, and stay as they are.
func (p *play) set(c api.Cell, refs ...api.Ref) {
	p.t.Helper()
	if code := p.d.Set(c, refs); code != api.OK {
		p.t.Fatalf("Set(%v, %s) = %d", c, begin(refs), code)
	}
	p.m.set(c, refs)
}

// touch tells both, and checks behind it all that the chapter says of a Touch.
func (p *play) touch(c api.Cell, formula bool) {
	p.t.Helper()
	ahead, upwards := p.k.All(), p.upwards()
	p.k.Touch(c, formula)
	p.m.touch(c, formula)
	p.check(fmt.Sprintf("Touch(%v, %v)", c, formula))
	if isCell(c) && upwards {
		p.checkUpwards(c, formula)
	}
	p.checkRoom()
	p.checkStops(ahead)
}

func (p *play) clean(cells ...api.Cell) {
	p.t.Helper()
	for _, c := range cells {
		p.k.Clean(c)
		p.m.clean(c)
		p.check(fmt.Sprintf("Clean(%v)", c))
	}
}

// put is what a sheet does: a cell is given a formula with these references (none of them: one without any), and the marks are told.
func (p *play) put(c api.Cell, refs ...api.Ref) {
	p.t.Helper()
	p.set(c, refs...)
	p.touch(c, true)
}

// drop is what a sheet does, when a cell has a formula no more.
func (p *play) drop(c api.Cell) {
	p.t.Helper()
	p.set(c)
	p.touch(c, false)
}

// cleanAll makes all states Clean.
func (p *play) cleanAll() {
	p.t.Helper()
	for _, s := range p.m.sorted() {
		p.clean(s.Cell)
	}
}

// has fails the test, unless these are all states, row by row, and Peak is that.
func (p *play) has(peak int, want ...api.Mark) {
	p.t.Helper()
	if got := p.k.All(); !slices.Equal(got, want) || p.k.Peak() != peak {
		p.t.Fatalf("All %s, Peak %d; want %s, %d", begin(got), p.k.Peak(), begin(want), peak)
	}
}

// clean, maybe and due are a cell's state.
func clean(c api.Cell) api.Mark { return api.Mark{Cell: c, State: api.Clean} }
func maybe(c api.Cell) api.Mark { return api.Mark{Cell: c, State: api.Maybe} }
func due(c api.Cell) api.Mark   { return api.Mark{Cell: c, State: api.Due} }

// none, for bring, is a cell without a state.
const none = -1

// bring gives cells these states, by calls of the chapter alone, over two other cells. No reference is left behind it.
func (p *play) bring(cells []api.Cell, states []int) {
	p.t.Helper()
	// Nothing is checked till all is told: the tests bring many states.
	touch := func(c api.Cell, formula bool) {
		p.k.Touch(c, formula)
		p.m.touch(c, formula)
	}
	from, between := cell(4000, 250), cell(4000, 251)
	p.set(between, one(from))
	for i, c := range cells {
		if states[i] == none {
			continue
		}
		touch(c, true)
		if states[i] == api.Maybe {
			p.set(c, one(between))
		}
		if states[i] != api.Due {
			p.k.Clean(c)
			p.m.clean(c)
		}
	}
	touch(from, false)
	for _, c := range append(cells, between) {
		p.set(c)
	}
	touch(between, false)
	p.check("all is told")
	for i, c := range cells {
		if state, is := p.k.State(c); is != (states[i] != none) || is && state != states[i] {
			p.t.Fatalf("%v has the state %d, %v; want %d", c, state, is, states[i])
		}
	}
}
