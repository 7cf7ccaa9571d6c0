package eval

import (
	"slices"

	"oriel/api"
	"oriel/ops"
	"oriel/value"
)

// asks is the name of the one function that is answered here: it needs the host.
const asks = "ASK"

// through goes through a formula's nodes once, over a stack of what is worked out so far; what is left in the end is the answer.
func (e *Eval) through(nodes []api.Node, s Source) api.Value {
	var stack []api.Arg
	for _, n := range nodes {
		rest := len(stack) - ops.Takes(n)
		left := e.left(n, stack[rest:], s)
		stack = append(stack[:rest], left)
	}
	return stack[0].Value
}

// left is what a node leaves in the place of what it works on.
func (e *Eval) left(n api.Node, on []api.Arg, s Source) api.Arg {
	switch n.Kind {
	case api.NodeValue:
		return single(e.short(n.Value))
	case api.NodeCell:
		return single(s.Cell(n.Cell))
	case api.NodeRect:
		// A copy, as the source may tell the next rectangle in the same room.
		return api.Arg{Many: true, Rect: n.Rect, Entries: slices.Clone(s.Rect(n.Rect))}
	case api.NodeOp:
		return single(e.operate(n.Op, on))
	}
	return single(e.call(n.Name, on))
}

// single is an argument of one value.
func single(v api.Value) api.Arg { return api.Arg{Value: v} }

// short is a value, or a fault in the place of a text that is too long.
func (e *Eval) short(v api.Value) api.Value {
	if v.Tag == api.Text && len(v.Str) > e.most {
		return value.Err(api.CodeLong)
	}
	return v
}

// call is what a function answers.
func (e *Eval) call(name string, args []api.Arg) api.Value {
	if name == asks {
		return e.ask(args)
	}
	return e.table.Call(name, args, e.most)
}

// ask is what the host answers, if it may.
func (e *Eval) ask(args []api.Arg) api.Value {
	if len(args) != 1 || args[0].Many {
		return value.Err(api.CodeArg)
	}
	n, code := value.AsNumber(args[0].Value)
	if code != api.CodeNone {
		return value.Err(code)
	}
	if e.host == nil {
		return value.Err(api.CodeMiss)
	}
	v := e.host.Ask(n)
	// That something is on a ring is found: a host can't say so.
	if !value.May(v) || v == value.Err(api.CodeCycle) {
		return value.Err(api.CodeArg)
	}
	return e.short(v)
}
