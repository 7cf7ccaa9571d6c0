package eval

import (
	"oriel/api"
	"oriel/dec"
	"oriel/given"
	"oriel/value"
)

// hundred is what a percentage is divided by.
const hundred = 100 * api.Scale

// operate is what an operation answers of the one or two that it works on.
func (e *Eval) operate(op int, on []api.Arg) api.Value {
	switch op {
	case api.OpNeg, api.OpPct:
		return ofOne(op, on[0].Value)
	case api.OpMul, api.OpDiv, api.OpAdd, api.OpSub:
		return ofTwo(op, on[0].Value, on[1].Value)
	case api.OpCat:
		return e.join(on[0].Value, on[1].Value)
	}
	return compared(op, on)
}

// ofOne is a number with the other sign, or its hundredth.
func ofOne(op int, v api.Value) api.Value {
	x, code := value.AsNumber(v)
	if code != api.CodeNone {
		return value.Err(code)
	}
	if op == api.OpNeg {
		return number(dec.Neg(x))
	}
	return number(dec.Div(x, hundred))
}

// ofTwo is what two numbers make.
func ofTwo(op int, first, second api.Value) api.Value {
	a, code := value.AsNumber(first)
	if code != api.CodeNone {
		return value.Err(code)
	}
	b, code := value.AsNumber(second)
	if code != api.CodeNone {
		return value.Err(code)
	}
	switch op {
	case api.OpMul:
		return number(dec.Mul(a, b))
	case api.OpDiv:
		return number(dec.Div(a, b))
	case api.OpAdd:
		return number(dec.Add(a, b))
	}
	return number(dec.Sub(a, b))
}

// number is what dec answered: a number, or a fault of its code.
func number(x int64, code api.Code) api.Value {
	if code != api.CodeNone {
		return value.Err(code)
	}
	return value.Num(x)
}

// join is two texts, one behind the other.
func (e *Eval) join(first, second api.Value) api.Value {
	a, code := value.AsText(first)
	if code != api.CodeNone {
		return value.Err(code)
	}
	b, code := value.AsText(second)
	if code != api.CodeNone {
		return value.Err(code)
	}
	// Asked ahead of joining: what a source tells may be of any length.
	if len(b) > e.most-len(a) {
		return value.Err(api.CodeLong)
	}
	return value.Txt(a + b)
}

// compared is the truth of how two values stand to each other.
func compared(op int, on []api.Arg) api.Value {
	if fault, is := given.Fault(on); is {
		return fault
	}
	return value.Truth(holds(op, value.Compare(on[0].Value, on[1].Value)))
}

// holds tells whether a comparison is true of two of which the first is less (-1), the same (0) or greater (1).
func holds(op, order int) bool {
	switch op {
	case api.OpEq:
		return order == 0
	case api.OpNe:
		return order != 0
	case api.OpLt:
		return order < 0
	case api.OpLe:
		return order <= 0
	case api.OpGt:
		return order > 0
	}
	return order >= 0
}
