package store

import (
	"math"
	"slices"
	"strconv"
	"testing"

	"oriel/api"
	"oriel/content"
)

func cell(row, col int) api.Cell { return api.Cell{Row: row, Col: col} }

func rect(top, left, bottom, right int) api.Rect {
	return api.Rect{Top: top, Left: left, Bottom: bottom, Right: right}
}

// whole is the sheet, everything all cells of any numbers.
func whole() api.Rect      { return rect(1, 1, 4096, 256) }
func everything() api.Rect { return rect(math.MinInt, math.MinInt, math.MaxInt, math.MaxInt) }

// some is a new content.
func some(n int) *content.Content { return &content.Content{Text: strconv.Itoa(n)} }

// cross are the cells of all these rows and columns, row by row if they are in order.
func cross(rows, cols []int) []api.Cell {
	var list []api.Cell
	for _, row := range rows {
		for _, col := range cols {
			list = append(list, cell(row, col))
		}
	}
	return list
}

// rows and columns that a cell may have, in order: both ends, and both sides of where some chunk may end.
func goodRows() []int {
	return []int{1, 2, 3, 8, 9, 15, 16, 17, 31, 32, 33, 63, 64, 65, 127, 128, 129, 255, 256, 257, 511, 512, 513, 1024, 1025, 2048, 2049, 4032, 4033, 4095, 4096}
}
func goodCols() []int { return []int{1, 2, 26, 27, 64, 65, 128, 129, 254, 255, 256} }

// goodCells are cells that may be, row by row.
func goodCells() []api.Cell { return cross(goodRows(), goodCols()) }

// wrongCells are cells that may not be: for their row, their column, or both.
func wrongCells() []api.Cell {
	rows := []int{math.MinInt, math.MinInt + 1, -1 << 32, -4096, -63, -1, 0, 4097, 4160, 8192, 1<<32 + 1, math.MaxInt - 1, math.MaxInt}
	cols := []int{math.MinInt, math.MinInt + 1, -1 << 32, -256, -1, 0, 257, 258, 512, 1<<32 + 1, math.MaxInt - 1, math.MaxInt}
	return slices.Concat(cross(goodRows(), cols), cross(rows, goodCols()), cross(rows, cols))
}

// may tells whether a cell may be, by the words of chapter 3.
func may(c api.Cell) bool { return c.Row >= 1 && c.Row <= 4096 && c.Col >= 1 && c.Col <= 256 }

// has tells whether a cell is in a rectangle, by the words of chapter 3.
func has(r api.Rect, c api.Cell) bool {
	return r.Top <= c.Row && c.Row <= r.Bottom && r.Left <= c.Col && c.Col <= r.Right
}

// ahead tells whether a cell stands ahead of another one, by the words of chapter 3.
func ahead(a, b api.Cell) bool { return a.Row < b.Row || a.Row == b.Row && a.Col < b.Col }

// order holds cells against one another, row by row.
func order(a, b api.Cell) int {
	switch {
	case ahead(a, b):
		return -1
	case a == b:
		return 0
	}
	return 1
}

// model is a store by the chapter's words: a plain list, in the order in which cells came to have contents.
type model struct {
	list []held
}

type held struct {
	cell api.Cell
	says *content.Content
}

func (m *model) at(c api.Cell) int {
	return slices.IndexFunc(m.list, func(h held) bool { return h.cell == c })
}

func (m *model) put(c api.Cell, x *content.Content) api.Errno {
	if x == nil {
		return api.ErrArg
	}
	if !may(c) {
		return api.ErrAddr
	}
	if i := m.at(c); i >= 0 {
		m.list[i].says = x
	} else {
		m.list = append(m.list, held{c, x})
	}
	return api.OK
}

func (m *model) drop(c api.Cell) api.Errno {
	if !may(c) {
		return api.ErrAddr
	}
	if i := m.at(c); i >= 0 {
		m.list = slices.Delete(m.list, i, i+1)
	}
	return api.OK
}

func (m *model) get(c api.Cell) *content.Content {
	if i := m.at(c); i >= 0 {
		return m.list[i].says
	}
	return nil
}

func (m *model) next(r api.Rect, after api.Cell) (api.Cell, bool) {
	var first api.Cell
	found := false
	for _, h := range m.list {
		if has(r, h.cell) && ahead(after, h.cell) && (!found || ahead(h.cell, first)) {
			first, found = h.cell, true
		}
	}
	return first, found
}

// in are the cells of a rectangle with contents, row by row.
func (m *model) in(r api.Rect) []api.Cell {
	var list []api.Cell
	for _, h := range m.list {
		if has(r, h.cell) {
			list = append(list, h.cell)
		}
	}
	slices.SortFunc(list, order)
	return list
}

// walk are the cells that Next tells, from the zero cell on; it stops where these are more than have contents.
func walk(s *Store, r api.Rect) []api.Cell {
	var list []api.Cell
	c, is := s.Next(r, api.Cell{})
	for ; is && len(list) <= s.Count(); c, is = s.Next(r, c) {
		list = append(list, c)
	}
	return list
}

// checkNext fails the test, unless Next answers this.
func checkNext(t *testing.T, s *Store, r api.Rect, after, want api.Cell, is bool) {
	t.Helper()
	if c, ok := s.Next(r, after); c != want || ok != is {
		t.Fatalf("Next(%v, %v) = %v, %v; want %v, %v", r, after, c, ok, want, is)
	}
}

// checkWalk fails the test, unless a walk through a rectangle tells just these cells.
func checkWalk(t *testing.T, s *Store, r api.Rect, want []api.Cell) {
	t.Helper()
	if got := walk(s, r); !slices.Equal(got, want) {
		t.Fatalf("the walk through %v tells %d cells %.200v; want %d: %.200v", r, len(got), got, len(want), want)
	}
}

// checkAll fails the test, unless a store has just what the model has.
func checkAll(t *testing.T, s *Store, m *model) {
	t.Helper()
	if s.Count() != len(m.list) {
		t.Fatalf("Count = %d; want %d", s.Count(), len(m.list))
	}
	for _, h := range m.list {
		if s.Get(h.cell) != h.says {
			t.Fatalf("Get(%v) is another content", h.cell)
		}
	}
	checkWalk(t, s, whole(), m.in(whole()))
}

// puts fails the test, unless a store and the model answer a Put by this error.
func puts(t *testing.T, s *Store, m *model, c api.Cell, x *content.Content, want api.Errno) {
	t.Helper()
	if got := s.Put(c, x); got != want || m.put(c, x) != want {
		t.Fatalf("Put(%v, %v) = %d; want %d", c, x, got, want)
	}
	if s.Count() != len(m.list) || s.Get(c) != m.get(c) {
		t.Fatalf("behind Put(%v): Count %d, Get %v; want %d, %v", c, s.Count(), s.Get(c), len(m.list), m.get(c))
	}
}

// drops fails the test, unless a store and the model answer a Drop by this error.
func drops(t *testing.T, s *Store, m *model, c api.Cell, want api.Errno) {
	t.Helper()
	if got := s.Drop(c); got != want || m.drop(c) != want {
		t.Fatalf("Drop(%v) = %d; want %d", c, got, want)
	}
	if s.Count() != len(m.list) || s.Get(c) != nil {
		t.Fatalf("behind Drop(%v): Count %d, Get %v; want %d, nil", c, s.Count(), s.Get(c), len(m.list))
	}
}

// filled is a store with contents in these cells, and a model of it.
func filled(t *testing.T, cells []api.Cell) (*Store, *model) {
	t.Helper()
	s, m := New(), &model{}
	for i, c := range cells {
		puts(t, s, m, c, some(i), api.OK)
	}
	return s, m
}
