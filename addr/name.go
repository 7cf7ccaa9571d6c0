package addr

import (
	"strconv"
	"strings"

	"oriel/api"
)

// letters are as many as a column's name is made of.
const letters = 'Z' - 'A' + 1

// between stands between the two cells of a rectangle's name.
const between = ":"

// Name is a cell's name.
func Name(c api.Cell) string {
	if !May(c) {
		return ""
	}
	return columnName(c.Col) + strconv.Itoa(c.Row)
}

// NameRect is a rectangle's name.
func NameRect(r api.Rect) string {
	if !MayRect(r) {
		return ""
	}
	first, last := corners(r)
	return Name(first) + between + Name(last)
}

// columnName is the name of a column that may be.
func columnName(col int) string {
	round, place := (col-1)/letters, (col-1)%letters
	name := string(rune('A' + place))
	if round == 0 {
		return name
	}
	return string(rune('A'+round-1)) + name
}

// Parse reads a cell's name.
func Parse(s string) (api.Cell, bool) {
	var c api.Cell
	for _, letter := range s {
		switch {
		case isLetter(letter) && c.Row == 0:
			c.Col = c.Col*letters + int(letter-'A') + 1
		case isDigit(letter, c.Row == 0):
			c.Row = c.Row*10 + int(letter-'0')
		default:
			return api.Cell{}, false
		}
		// It is given up as soon as it is too great, so that no length of a text makes it wrap round.
		if c.Col > api.MaxCol || c.Row > api.MaxRow {
			return api.Cell{}, false
		}
	}
	if !May(c) {
		return api.Cell{}, false
	}
	return c, true
}

// isLetter tells whether a column's name may have it.
func isLetter(letter rune) bool { return letter >= 'A' && letter <= 'Z' }

// isDigit tells whether a row may have it: there is no nought ahead of it.
func isDigit(letter rune, first bool) bool {
	if first && letter == '0' {
		return false
	}
	return letter >= '0' && letter <= '9'
}

// ParseRect reads a rectangle's name.
func ParseRect(s string) (api.Rect, bool) {
	ahead, behind, _ := strings.Cut(s, between)
	first, isFirst := Parse(ahead)
	last, isLast := Parse(behind)
	r := api.Rect{Top: first.Row, Left: first.Col, Bottom: last.Row, Right: last.Col}
	if !isFirst || !isLast || !MayRect(r) {
		return api.Rect{}, false
	}
	return r, true
}
