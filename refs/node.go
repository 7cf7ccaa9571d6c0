package refs

import (
	"strings"

	"oriel/addr"
	"oriel/api"
	"oriel/ops"
	"oriel/value"
)

// What the name of a call is made of.
const (
	letters = "ABCDEFGHIJKLMNOPQRSTUVWXYZ"
	digits  = "0123456789"
	inName  = letters + digits + "_"
	maxName = 16
)

// may tells whether a node may be. It is held against one that has just the fields of its kind: so all others are zero.
func may(n api.Node) bool {
	switch n.Kind {
	case api.NodeValue:
		return n == api.Node{Kind: n.Kind, Value: n.Value} && mayStand(n.Value)
	case api.NodeCell:
		return n == api.Node{Kind: n.Kind, Cell: n.Cell} && addr.May(n.Cell)
	case api.NodeRect:
		return n == api.Node{Kind: n.Kind, Rect: n.Rect} && addr.MayRect(n.Rect)
	case api.NodeOp:
		return n == api.Node{Kind: n.Kind, Op: n.Op} && ops.May(n.Op)
	case api.NodeCall:
		return n == api.Node{Kind: n.Kind, Name: n.Name, Args: n.Args} && mayName(n.Name) && n.Args >= 0 && n.Args <= api.MaxArgs
	}
	return false
}

// mayStand tells whether a value may stand in a formula: not all that may be can be written there.
func mayStand(v api.Value) bool {
	if !value.May(v) {
		return false
	}
	switch v.Tag {
	case api.Blank:
		return false
	case api.Number:
		// What is below 0 is written by OpNeg.
		return v.Num >= 0
	case api.Fault:
		// That something is on a ring is found, never written.
		return v.Code != api.CodeCycle
	}
	return true
}

// mayName tells whether a call may have this name: it must not be read as a truth or as a cell.
func mayName(name string) bool {
	behind := strings.TrimLeft(name, letters)
	switch {
	case behind == name, len(name) > maxName:
		return false
	case strings.TrimLeft(behind, inName) != "":
		return false
	case name == "TRUE", name == "FALSE":
		return false
	}
	return behind == "" || strings.TrimLeft(behind, digits) != ""
}
