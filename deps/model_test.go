package deps

import (
	"fmt"
	"math"
	"math/rand"
	"slices"
	"testing"

	"oriel/api"
)

func cell(row, col int) api.Cell { return api.Cell{Row: row, Col: col} }

func rect(top, left, bottom, right int) api.Rect {
	return api.Rect{Top: top, Left: left, Bottom: bottom, Right: right}
}

// one is a reference to a cell by itself.
func one(row, col int) api.Ref { return api.Ref{Rect: rect(row, col, row, col)} }

// many is a reference to a rectangle.
func many(top, left, bottom, right int) api.Ref {
	return api.Ref{Many: true, Rect: rect(top, left, bottom, right)}
}

// these are references, in the order in which they stand here.
func these(refs ...api.Ref) []api.Ref { return refs }

// whole is a reference to the sheet.
func whole() api.Ref { return many(1, 1, 4096, 256) }

// cross are the cells of all these rows and columns, row by row if they are in order.
func cross(rows, cols []int) []api.Cell {
	var list []api.Cell
	for _, row := range rows {
		for _, col := range cols {
			list = append(list, cell(row, col))
		}
	}
	return list
}

// rows and columns that a cell may have, in order: both ends, and some between.
func goodRows() []int { return []int{1, 2, 3, 26, 63, 64, 65, 66, 128, 129, 4032, 4033, 4095, 4096} }
func goodCols() []int { return []int{1, 2, 3, 26, 27, 64, 255, 256} }

// goodCells are cells that may be, row by row.
func goodCells() []api.Cell { return cross(goodRows(), goodCols()) }

// rows and columns that no cell may have.
func wrongRows() []int {
	return []int{math.MinInt, -1 << 32, -4096, -63, -1, 0, 4097, 4160, 8192, 1<<32 + 1, math.MaxInt}
}
func wrongCols() []int {
	return []int{math.MinInt, -1 << 32, -256, -1, 0, 257, 258, 512, 1<<32 + 1, math.MaxInt}
}

// wrongCells are cells that may not be: for their row, their column, or both.
func wrongCells() []api.Cell {
	return slices.Concat(cross(goodRows(), wrongCols()), cross(wrongRows(), goodCols()), cross(wrongRows(), wrongCols()))
}

// wrongRefs are references that may not be: for one number of their rectangle, for two that stand the wrong way round, for more; and, without Many, for another cell than one.
func wrongRefs() []api.Ref {
	rects := []api.Rect{
		{}, rect(2, 1, 1, 1), rect(1, 2, 1, 1), rect(2, 2, 1, 1), rect(4096, 1, 1, 256), rect(1, 256, 4096, 1), rect(4096, 256, 1, 1), rect(65, 7, 64, 7), rect(7, 65, 7, 64), rect(2, 1, 1, 2), rect(1, 2, 2, 1),
		rect(math.MinInt, math.MinInt, math.MaxInt, math.MaxInt), rect(math.MaxInt, math.MaxInt, math.MinInt, math.MinInt), rect(0, 0, 4097, 257), rect(0, 1, 0, 1), rect(1, 0, 1, 0), rect(4097, 256, 4097, 256), rect(4096, 257, 4096, 257),
	}
	for _, n := range wrongRows() {
		rects = append(rects, rect(n, 1, 4096, 256), rect(1, 1, n, 256), rect(n, 1, n, 256), rect(n, 1, n, 1), rect(n, n, n, n))
	}
	for _, n := range wrongCols() {
		rects = append(rects, rect(1, n, 4096, 256), rect(1, 1, 4096, n), rect(1, n, 4096, n), rect(1, n, 1, n))
	}
	var list []api.Ref
	for _, r := range rects {
		list = append(list, api.Ref{Rect: r}, api.Ref{Many: true, Rect: r})
	}
	for _, ref := range goodRefs() {
		if r := ref.Rect; r.Top != r.Bottom || r.Left != r.Right {
			list = append(list, api.Ref{Rect: r})
		}
	}
	return list
}

// goodRefs are references of each kind: to cells by themselves, to rectangles of one cell, of a row, of a column, of the sheet, and such that lie in, over and beside one another.
func goodRefs() []api.Ref {
	list := []api.Ref{
		whole(), many(1, 1, 1, 256), many(4096, 1, 4096, 256), many(1, 1, 4096, 1), many(1, 256, 4096, 256), many(1, 27, 4096, 27), many(2, 2, 4095, 255),
		many(1, 1, 1, 2), many(1, 1, 2, 1), many(4095, 256, 4096, 256), many(4096, 255, 4096, 256), many(1, 1, 64, 256), many(65, 1, 128, 256), many(64, 26, 65, 27), many(63, 2, 66, 64), many(1, 1, 3, 1), many(1, 1, 2, 2),
	}
	for _, c := range cross([]int{1, 2, 63, 64, 65, 4096}, []int{1, 2, 27, 256}) {
		list = append(list, one(c.Row, c.Col), many(c.Row, c.Col, c.Row, c.Col))
	}
	return list
}

// isCell, isRef tell whether a cell, a reference may be, by the words of chapters 3 and 17.
func isCell(c api.Cell) bool { return c.Row >= 1 && c.Row <= 4096 && c.Col >= 1 && c.Col <= 256 }
func isRef(ref api.Ref) bool {
	r := ref.Rect
	if !isCell(cell(r.Top, r.Left)) || !isCell(cell(r.Bottom, r.Right)) || r.Top > r.Bottom || r.Left > r.Right {
		return false
	}
	return ref.Many || (r.Bottom-r.Top+1)*(r.Right-r.Left+1) == 1
}

// has tells whether a cell is in a rectangle, by the words of chapter 3.
func has(r api.Rect, c api.Cell) bool {
	return r.Top <= c.Row && c.Row <= r.Bottom && r.Left <= c.Col && c.Col <= r.Right
}

// given is a cell with the references that it is to have.
type given struct {
	by   api.Cell
	refs []api.Ref
}

// someGiven are some cells, each with some of goodRefs: most references are had by several cells.
func someGiven() []given {
	refs := goodRefs()
	var all []given
	for i, by := range cross([]int{1, 2, 64, 65, 4096}, []int{1, 2, 27, 256}) {
		g := given{by: by}
		for j := range 1 + i%9 {
			g.refs = append(g.refs, refs[(i*5+j*7)%len(refs)])
		}
		all = append(all, g)
	}
	return all
}

// mixed is a list in another order.
func mixed[T any](seed int64, list []T) []T {
	list = slices.Clone(list)
	rand.New(rand.NewSource(seed)).Shuffle(len(list), func(i, j int) { list[i], list[j] = list[j], list[i] })
	return list
}

// model is Deps by the chapter's words: a plain list of edges, in the order in which they came.
type model struct {
	edges []api.Edge
}

func (m *model) set(c api.Cell, refs []api.Ref) api.Errno {
	if !isCell(c) {
		return api.ErrAddr
	}
	for _, ref := range refs {
		if !isRef(ref) {
			return api.ErrArg
		}
	}
	m.edges = slices.DeleteFunc(m.edges, func(e api.Edge) bool { return e.From == c })
	for _, ref := range refs {
		if e := (api.Edge{From: c, To: ref}); !slices.Contains(m.edges, e) {
			m.edges = append(m.edges, e)
		}
	}
	return api.OK
}

func (m *model) direct(c api.Cell) []api.Cell {
	var list []api.Cell
	for _, e := range m.edges {
		if has(e.To.Rect, c) && !slices.Contains(list, e.From) {
			list = append(list, e.From)
		}
	}
	slices.SortFunc(list, func(a, b api.Cell) int { return slices.Compare([]int{a.Row, a.Col}, []int{b.Row, b.Col}) })
	return list
}

// numbers are an edge's, in the order in which edges are held against one another.
func numbers(e api.Edge) []int {
	r, last := e.To.Rect, 0
	if e.To.Many {
		last = 1
	}
	return []int{e.From.Row, e.From.Col, r.Top, r.Left, r.Bottom, r.Right, last}
}

func (m *model) sorted() []api.Edge {
	list := slices.Clone(m.edges)
	slices.SortFunc(list, func(a, b api.Edge) int { return slices.Compare(numbers(a), numbers(b)) })
	return list
}

// begin is a list as text, a long one's first part alone.
func begin[T any](list []T) string { return fmt.Sprint(list[:min(len(list), 20)]) }

// checkDirect fails the test, unless Direct tells just these cells.
func checkDirect(t *testing.T, d *Deps, c api.Cell, want ...api.Cell) {
	t.Helper()
	if got := d.Direct(c); !slices.Equal(got, want) {
		t.Fatalf("Direct(%v) tells %d cells %s; want %d: %s", c, len(got), begin(got), len(want), begin(want))
	}
}

// checkEdges fails the test, unless Edges and Back both tell just these.
func checkEdges(t *testing.T, d *Deps, want ...api.Edge) {
	t.Helper()
	if got := d.Edges(); !slices.Equal(got, want) {
		t.Fatalf("Edges tells %d references %s; want %d: %s", len(got), begin(got), len(want), begin(want))
	}
	if got := d.Back(); !slices.Equal(got, want) {
		t.Fatalf("Back tells %d references %s; want %d: %s", len(got), begin(got), len(want), begin(want))
	}
}

// check fails the test, unless Edges, Back, and Direct of these cells tell just what the model does.
func check(t *testing.T, d *Deps, m *model, cells []api.Cell) {
	t.Helper()
	checkEdges(t, d, m.sorted()...)
	for _, c := range cells {
		checkDirect(t, d, c, m.direct(c)...)
	}
}

// sets fails the test, unless Set and the model's answer this, and Edges and Back are the model's behind it.
func sets(t *testing.T, d *Deps, m *model, by api.Cell, refs []api.Ref, want api.Errno) {
	t.Helper()
	if code := m.set(by, refs); code != want {
		t.Fatalf("the model's Set(%v, %s) = %d; want %d", by, begin(refs), code, want)
	}
	if code := d.Set(by, refs); code != want {
		t.Fatalf("Set(%v, %s) = %d; want %d", by, begin(refs), code, want)
	}
	checkEdges(t, d, m.sorted()...)
}

// filled is Deps with these references, and a model of it.
func filled(t *testing.T, all []given) (*Deps, *model) {
	t.Helper()
	d, m := New(), &model{}
	for _, g := range all {
		sets(t, d, m, g.by, g.refs, api.OK)
	}
	return d, m
}

// around are the cells at a rectangle's corners, and those beside them on all sides.
func around(r api.Rect) []api.Cell {
	return cross([]int{r.Top - 1, r.Top, r.Bottom, r.Bottom + 1}, []int{r.Left - 1, r.Left, r.Right, r.Right + 1})
}
