package print

import (
	"slices"
	"strings"

	"oriel/addr"
	"oriel/api"
	"oriel/dec"
	"oriel/ops"
	"oriel/value"
)

// piece is the text of a thing, which waits for the node that works on it.
type piece struct {
	// Its parts are joined once, in the end: a formula may hold long texts, under many operations.
	parts []string
	level int // how it binds
}

// work is the piece that a node leaves in the place of those that it works on; it takes their parts over.
func work(n api.Node, under []piece) piece {
	switch n.Kind {
	case api.NodeOp:
		return piece{parts: operation(n.Op, under), level: ops.Level(n.Op)}
	case api.NodeCall:
		return piece{parts: call(n.Name, under), level: ops.Closest}
	}
	return piece{parts: []string{leaf(n)}, level: ops.Closest}
}

func operation(op int, under []piece) []string {
	sign := ops.Sign(op)
	first := around(op, 0, under[0])
	switch op {
	case api.OpNeg:
		return slices.Insert(first, 0, sign)
	case api.OpPct:
		return append(first, sign)
	}
	return append(append(first, sign), around(op, 1, under[1])...)
}

// around is what an operation works on at a place, in brackets where they must stand.
func around(op, place int, one piece) []string {
	if !ops.InBrackets(op, place, one.level) {
		return one.parts
	}
	return append(slices.Insert(one.parts, 0, "("), ")")
}

func call(name string, under []piece) []string {
	parts := []string{name, "("}
	for place, one := range under {
		if place > 0 {
			parts = append(parts, ",")
		}
		parts = append(parts, one.parts...)
	}
	return append(parts, ")")
}

// leaf is the text of a node that works on nothing.
func leaf(n api.Node) string {
	switch n.Kind {
	case api.NodeCell:
		return addr.Name(n.Cell)
	case api.NodeRect:
		return addr.NameRect(n.Rect)
	}
	return literal(n.Value)
}

func literal(v api.Value) string {
	switch v.Tag {
	case api.Number:
		return dec.Print(v.Num)
	case api.Text:
		return quoted(v.Str)
	}
	return value.Show(v)
}

func quoted(s string) string { return `"` + strings.ReplaceAll(s, `"`, `""`) + `"` }
