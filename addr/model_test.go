package addr

import (
	"math"
	"regexp"
	"strconv"
	"strings"

	"oriel/api"
)

func cell(row, col int) api.Cell { return api.Cell{Row: row, Col: col} }

func rect(top, left, bottom, right int) api.Rect {
	return api.Rect{Top: top, Left: left, Bottom: bottom, Right: right}
}

// rows and columns that a cell may have: both ends and what stands beside them.
func goodRows() []int { return []int{1, 2, 9, 10, 99, 100, 999, 1000, 4095, 4096} }
func goodCols() []int { return []int{1, 2, 25, 26, 27, 52, 53, 254, 255, 256} }

// rows and columns that no cell may have.
func wrongRows() []int { return []int{math.MinInt, -4096, -1, 0, 4097, 5000, 1 << 32, math.MaxInt} }
func wrongCols() []int { return []int{math.MinInt, -256, -1, 0, 257, 702, 703, 1 << 32, math.MaxInt} }

// goodCells are some cells that may be.
func goodCells() []api.Cell { return cross(goodRows(), goodCols()) }

// wrongCells are cells that may not be: for their row, their column, or both.
func wrongCells() []api.Cell {
	list := cross(goodRows(), wrongCols())
	list = append(list, cross(wrongRows(), goodCols())...)
	return append(list, cross(wrongRows(), wrongCols())...)
}

// cross are the cells of all these rows and columns.
func cross(rows, cols []int) []api.Cell {
	var list []api.Cell
	for _, row := range rows {
		for _, col := range cols {
			list = append(list, cell(row, col))
		}
	}
	return list
}

// someRects are rectangles of few numbers: such that may be, such whose corners are the wrong way round, such beyond the sheet.
func someRects() []api.Rect {
	var list []api.Rect
	rows := []int{math.MinInt, 0, 1, 2, 4096, 4097, math.MaxInt}
	cols := []int{math.MinInt, 0, 1, 27, 256, 257, math.MaxInt}
	for _, first := range cross(rows, cols) {
		for _, last := range cross(rows, cols) {
			list = append(list, rect(first.Row, first.Col, last.Row, last.Col))
		}
	}
	return list
}

// columnNames are the names of the columns 1 to 256, counted up letter by letter.
func columnNames() []string {
	const alphabet = "ABCDEFGHIJKLMNOPQRSTUVWXYZ"
	var list []string
	for _, ahead := range append([]string{""}, strings.Split(alphabet, "")...) {
		for _, last := range strings.Split(alphabet, "") {
			list = append(list, ahead+last)
		}
	}
	return list[:256]
}

// names reads names by a pattern and a list of columns.
type names struct {
	form    *regexp.Regexp
	columns map[string]int
}

func newNames() names {
	n := names{regexp.MustCompile(`\A([A-Z]{1,2})([1-9][0-9]{0,3})\z`), map[string]int{}}
	for i, s := range columnNames() {
		n.columns[s] = i + 1
	}
	return n
}

// cell is the cell whose name a text is, or the zero one.
func (n names) cell(s string) (api.Cell, bool) {
	m := n.form.FindStringSubmatch(s)
	if m == nil || n.columns[m[1]] == 0 {
		return api.Cell{}, false
	}
	row, _ := strconv.Atoi(m[2])
	if row > 4096 {
		return api.Cell{}, false
	}
	return cell(row, n.columns[m[1]]), true
}

// rect is the rectangle whose name a text is, or the zero one.
func (n names) rect(s string) (api.Rect, bool) {
	parts := strings.Split(s, ":")
	if len(parts) != 2 {
		return api.Rect{}, false
	}
	a, isA := n.cell(parts[0])
	b, isB := n.cell(parts[1])
	if !isA || !isB || a.Row > b.Row || a.Col > b.Col {
		return api.Rect{}, false
	}
	return rect(a.Row, a.Col, b.Row, b.Col), true
}

// beside are texts that differ from one by a byte: without it, with another in its place, with one more.
func beside(s string) []string {
	var list []string
	for i := range len(s) + 1 {
		if i < len(s) {
			list = append(list, s[:i]+s[i+1:])
		}
		for b := range 256 {
			one := string([]byte{byte(b)})
			list = append(list, s[:i]+one+s[i:])
			if i < len(s) {
				list = append(list, s[:i]+one+s[i+1:])
			}
		}
	}
	return list
}

// made are all texts of at most so many of these pieces.
func made(pieces []string, most int) []string {
	list, from := []string{""}, 0
	for range most {
		to := len(list)
		for _, s := range list[from:to] {
			for _, piece := range pieces {
				list = append(list, s+piece)
			}
		}
		from = to
	}
	return list
}
