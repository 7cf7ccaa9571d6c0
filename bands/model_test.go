package bands

import (
	"fmt"
	"math"
	"math/rand"
	"slices"
	"testing"

	"oriel/api"
)

func cell(row, col int) api.Cell { return api.Cell{Row: row, Col: col} }

func rect(top, left, bottom, right int) api.Rect {
	return api.Rect{Top: top, Left: left, Bottom: bottom, Right: right}
}

// whole is the sheet.
func whole() api.Rect { return rect(1, 1, 4096, 256) }

// cross are the cells of all these rows and columns, row by row if they are in order.
func cross(rows, cols []int) []api.Cell {
	var list []api.Cell
	for _, row := range rows {
		for _, col := range cols {
			list = append(list, cell(row, col))
		}
	}
	return list
}

// upTo are the numbers from first to last.
func upTo(first, last int) []int {
	var list []int
	for n := first; n <= last; n++ {
		list = append(list, n)
	}
	return list
}

// rows and columns that a cell may have, in order: both ends, and both sides of where some band may end.
func goodRows() []int {
	return []int{1, 2, 15, 16, 17, 32, 33, 63, 64, 65, 128, 129, 256, 257, 512, 513, 1024, 1025, 4032, 4033, 4095, 4096}
}
func goodCols() []int { return []int{1, 2, 26, 27, 64, 65, 255, 256} }

// goodCells are cells that may be, row by row.
func goodCells() []api.Cell { return cross(goodRows(), goodCols()) }

// rows and columns that no cell may have.
func wrongRows() []int {
	return []int{math.MinInt, math.MinInt + 1, -1 << 32, -4096, -63, -1, 0, 4097, 4160, 8192, 1<<32 + 1, math.MaxInt - 1, math.MaxInt}
}
func wrongCols() []int {
	return []int{math.MinInt, math.MinInt + 1, -1 << 32, -256, -1, 0, 257, 258, 512, 1<<32 + 1, math.MaxInt - 1, math.MaxInt}
}

// wrongCells are cells that may not be: for their row, their column, or both.
func wrongCells() []api.Cell {
	return slices.Concat(cross(goodRows(), wrongCols()), cross(wrongRows(), goodCols()), cross(wrongRows(), wrongCols()))
}

// wrongRects are rectangles that may not be: for one number alone, for two that stand the wrong way round, for more.
func wrongRects() []api.Rect {
	list := []api.Rect{
		{}, rect(2, 1, 1, 1), rect(1, 2, 1, 1), rect(2, 2, 1, 1), rect(4096, 1, 1, 256), rect(1, 256, 4096, 1), rect(4096, 256, 1, 1), rect(65, 7, 64, 7), rect(7, 65, 7, 64), rect(2, 1, 1, 2), rect(1, 2, 2, 1),
		rect(math.MinInt, math.MinInt, math.MaxInt, math.MaxInt), rect(math.MaxInt, math.MaxInt, math.MinInt, math.MinInt), rect(math.MinInt, 1, math.MaxInt, 256), rect(1, math.MinInt, 4096, math.MaxInt), rect(0, 0, 4097, 257),
	}
	for _, n := range wrongRows() {
		list = append(list, rect(n, 1, 4096, 256), rect(1, 1, n, 256), rect(n, 1, n, 256), rect(n, n, n, n))
	}
	for _, n := range wrongCols() {
		list = append(list, rect(1, n, 4096, 256), rect(1, 1, 4096, n), rect(1, n, 4096, n))
	}
	return list
}

// someRects are rectangles of each kind: of one cell, of a row, of a column, of the sheet, and such that end and begin where some band may.
func someRects() []api.Rect {
	list := []api.Rect{
		whole(), rect(1, 1, 1, 256), rect(4096, 1, 4096, 256), rect(64, 1, 64, 256), rect(65, 1, 65, 256), rect(1, 1, 4096, 1), rect(1, 256, 4096, 256), rect(1, 27, 4096, 27), rect(2, 2, 4095, 255),
		rect(1, 1, 64, 256), rect(65, 1, 128, 256), rect(64, 26, 65, 27), rect(63, 2, 66, 64), rect(60, 1, 70, 1), rect(1, 1, 65, 2), rect(64, 1, 4096, 256), rect(4033, 255, 4096, 256), rect(4032, 1, 4033, 256),
	}
	for _, c := range cross([]int{1, 63, 64, 65, 128, 129, 4095, 4096}, []int{1, 2, 27, 255, 256}) {
		list = append(list, rect(c.Row, c.Col, c.Row, c.Col))
	}
	return list
}

// may, mayRect tell whether a cell, a rectangle may be, by the words of chapter 3.
func may(c api.Cell) bool { return c.Row >= 1 && c.Row <= 4096 && c.Col >= 1 && c.Col <= 256 }
func mayRect(r api.Rect) bool {
	return may(cell(r.Top, r.Left)) && may(cell(r.Bottom, r.Right)) && r.Top <= r.Bottom && r.Left <= r.Right
}

// has tells whether a cell is in a rectangle, by the words of chapter 3.
func has(r api.Rect, c api.Cell) bool {
	return r.Top <= c.Row && c.Row <= r.Bottom && r.Left <= c.Col && c.Col <= r.Right
}

// pair is a rectangle and a cell that has it.
type pair struct {
	rect api.Rect
	by   api.Cell
}

// numbers are a pair's, in the order in which All's are held against one another.
func (p pair) numbers() []int {
	return []int{p.by.Row, p.by.Col, p.rect.Top, p.rect.Left, p.rect.Bottom, p.rect.Right}
}

// mixed are pairs in another order.
func mixed(seed int64, pairs []pair) []pair {
	list := slices.Clone(pairs)
	rand.New(rand.NewSource(seed)).Shuffle(len(list), func(i, j int) { list[i], list[j] = list[j], list[i] })
	return list
}

// model is Bands by the chapter's words: a plain list of pairs, in the order in which they came.
type model struct {
	list []pair
}

func (m *model) add(p pair) bool {
	if !mayRect(p.rect) || !may(p.by) || slices.Contains(m.list, p) {
		return false
	}
	m.list = append(m.list, p)
	return true
}

func (m *model) remove(p pair) bool {
	i := slices.Index(m.list, p)
	if i < 0 {
		return false
	}
	m.list = slices.Delete(m.list, i, i+1)
	return true
}

func (m *model) over(c api.Cell) []api.Cell {
	var list []api.Cell
	for _, p := range m.list {
		if has(p.rect, c) && !slices.Contains(list, p.by) {
			list = append(list, p.by)
		}
	}
	slices.SortFunc(list, func(a, b api.Cell) int { return slices.Compare([]int{a.Row, a.Col}, []int{b.Row, b.Col}) })
	return list
}

func (m *model) all() []api.Edge {
	sorted := slices.Clone(m.list)
	slices.SortFunc(sorted, func(a, b pair) int { return slices.Compare(a.numbers(), b.numbers()) })
	var list []api.Edge
	for _, p := range sorted {
		list = append(list, api.Edge{From: p.by, To: api.Ref{Many: true, Rect: p.rect}})
	}
	return list
}

// around are the cells at a rectangle's corners, and those beside them on all sides.
func around(r api.Rect) []api.Cell {
	return cross([]int{r.Top - 1, r.Top, r.Bottom, r.Bottom + 1}, []int{r.Left - 1, r.Left, r.Right, r.Right + 1})
}

// begin is a list as text, a long one's first part alone.
func begin[T any](list []T) string {
	return fmt.Sprint(list[:min(len(list), 20)])
}

// checkOver fails the test, unless Over tells just these cells.
func checkOver(t *testing.T, b *Bands, c api.Cell, want ...api.Cell) {
	t.Helper()
	if got := b.Over(c); !slices.Equal(got, want) {
		t.Fatalf("Over(%v) tells %d cells %s; want %d: %s", c, len(got), begin(got), len(want), begin(want))
	}
}

// checkAll fails the test, unless All tells just what the model does.
func checkAll(t *testing.T, b *Bands, m *model) {
	t.Helper()
	if got, want := b.All(), m.all(); !slices.Equal(got, want) {
		t.Fatalf("All tells %d pairs %s; want %d: %s", len(got), begin(got), len(want), begin(want))
	}
}

// check fails the test, unless All and Over of these cells tell just what the model does.
func check(t *testing.T, b *Bands, m *model, cells []api.Cell) {
	t.Helper()
	checkAll(t, b, m)
	for _, c := range cells {
		checkOver(t, b, c, m.over(c)...)
	}
}

// adds fails the test, unless Add and the model's answer this.
func adds(t *testing.T, b *Bands, m *model, p pair, want bool) {
	t.Helper()
	if got := b.Add(p.rect, p.by); got != want || m.add(p) != want {
		t.Fatalf("Add(%v, %v) = %v; want %v", p.rect, p.by, got, want)
	}
}

// removes fails the test, unless Remove and the model's answer this.
func removes(t *testing.T, b *Bands, m *model, p pair, want bool) {
	t.Helper()
	if got := b.Remove(p.rect, p.by); got != want || m.remove(p) != want {
		t.Fatalf("Remove(%v, %v) = %v; want %v", p.rect, p.by, got, want)
	}
}

// filled is Bands with these pairs, and a model of it.
func filled(t *testing.T, pairs []pair) (*Bands, *model) {
	t.Helper()
	b, m := New(), &model{}
	for _, p := range pairs {
		adds(t, b, m, p, true)
	}
	return b, m
}

// somePairs are some cells, each with some of someRects: many cells have a rectangle, many rectangles are had by several cells.
func somePairs() []pair {
	rects := someRects()
	var list []pair
	for i, by := range cross([]int{1, 2, 64, 65, 4096}, []int{1, 2, 27, 256}) {
		for j := range 6 {
			list = append(list, pair{rects[(i*5+j*7)%len(rects)], by})
		}
	}
	return list
}
