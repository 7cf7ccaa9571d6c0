// Package ops knows of the nodes of formulas what more than one layer asks: how many things each works on, and of the operations their signs, how each binds, and where brackets must stand around what it works on; see shared/doc/07-print.md.
package ops

import "oriel/api"

// Closest is how what is no operation binds; the operations' levels stand below it.
const Closest = 7

// signs are those of the operations of two, OpMul to OpGe.
var signs = [...]string{"*", "/", "+", "-", "&", "=", "<>", "<", "<=", ">", ">="}

// May tells whether an operation may be.
func May(op int) bool { return op >= api.OpNeg && op <= api.OpGe }

// Takes is how many things a node that may be works on: they stand ahead of it.
func Takes(n api.Node) int {
	if n.Kind != api.NodeOp {
		// What is no call has no Args.
		return n.Args
	}
	if n.Op == api.OpNeg || n.Op == api.OpPct {
		return 1
	}
	return 2
}

// Sign is an operation's sign; of what is none the empty text.
func Sign(op int) string {
	switch {
	case !May(op):
		return ""
	case op == api.OpNeg:
		return "-"
	case op == api.OpPct:
		return "%"
	}
	return signs[op-api.OpMul]
}

// OfTwo is the operation of two that has this sign.
func OfTwo(sign string) (int, bool) {
	for i, one := range signs {
		if one == sign {
			return api.OpMul + i, true
		}
	}
	return 0, false
}

// Level is how an operation binds, from the loosest on.
func Level(op int) int {
	switch op {
	case api.OpEq, api.OpNe, api.OpLt, api.OpLe, api.OpGt, api.OpGe:
		return 1
	case api.OpCat:
		return 2
	case api.OpAdd, api.OpSub:
		return 3
	case api.OpMul, api.OpDiv:
		return 4
	case api.OpNeg:
		return 5
	case api.OpPct:
		return 6
	}
	return Closest
}

// InBrackets tells whether what an operation works on at a place (from 0 on) must stand in brackets, if it binds on that level.
func InBrackets(op, place, level int) bool {
	own := Level(op)
	// A row of operations on one level is read from the left: the first of two needs no brackets for that.
	return level < own || place > 0 && level == own
}
