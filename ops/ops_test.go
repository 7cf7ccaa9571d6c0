package ops

import (
	"math"
	"testing"

	"oriel/api"
)

// levels are the operations by how they bind, from the loosest level on.
func levels() [][]int {
	return [][]int{
		{api.OpEq, api.OpNe, api.OpLt, api.OpLe, api.OpGt, api.OpGe},
		{api.OpCat},
		{api.OpAdd, api.OpSub},
		{api.OpMul, api.OpDiv},
		{api.OpNeg},
		{api.OpPct},
	}
}

func beyond() []int {
	return []int{math.MinInt, -1, 0, 14, 15, 256 + api.OpNeg, math.MaxInt}
}

func TestMay(t *testing.T) {
	for op := 1; op <= 13; op++ {
		if !May(op) {
			t.Errorf("May(%d) is false", op)
		}
	}
	for _, op := range beyond() {
		if May(op) {
			t.Errorf("May(%d) is true", op)
		}
	}
}

func TestTakes(t *testing.T) {
	for op := 1; op <= 13; op++ {
		want := 2
		if op <= 2 {
			want = 1
		}
		if n := Takes(api.Node{Kind: api.NodeOp, Op: op}); n != want {
			t.Errorf("the operation %d takes %d; want %d", op, n, want)
		}
	}
	for args := range 17 {
		if n := Takes(api.Node{Kind: api.NodeCall, Name: "F", Args: args}); n != args {
			t.Errorf("a call of %d takes %d", args, n)
		}
	}
	for _, one := range []api.Node{
		{Kind: api.NodeValue, Value: api.Value{Tag: api.Number, Num: 2}}, {Kind: api.NodeCell, Cell: api.Cell{Row: 1, Col: 1}}, {Kind: api.NodeRect, Rect: api.Rect{Top: 1, Left: 1, Bottom: 2, Right: 2}},
	} {
		if n := Takes(one); n != 0 {
			t.Errorf("%+v takes %d", one, n)
		}
	}
}

func TestSign(t *testing.T) {
	for i, want := range []string{"-", "%", "*", "/", "+", "-", "&", "=", "<>", "<", "<=", ">", ">="} {
		if sign := Sign(i + 1); sign != want {
			t.Errorf("Sign(%d) = %q; want %q", i+1, sign, want)
		}
	}
	for _, op := range beyond() {
		if sign := Sign(op); sign != "" {
			t.Errorf("Sign(%d) = %q", op, sign)
		}
	}
}

// The signs of the operations of two; all other texts are none.
func TestOfTwo(t *testing.T) {
	known := map[string]int{
		"*": api.OpMul, "/": api.OpDiv, "+": api.OpAdd, "-": api.OpSub, "&": api.OpCat,
		"=": api.OpEq, "<>": api.OpNe, "<": api.OpLt, "<=": api.OpLe, ">": api.OpGt, ">=": api.OpGe,
	}
	for sign, want := range known {
		if op, ok := OfTwo(sign); op != want || !ok {
			t.Errorf("OfTwo(%q) = %d, %t; want %d", sign, op, ok, want)
		}
	}
	others := []string{"", "%", "(", ")", ",", "=<", "=>", "==", "<<", "><", "--", " +", "+ ", "!", "neg", "1"}
	for b := range 256 {
		others = append(others, string([]byte{byte(b)}))
	}
	for _, sign := range others {
		if op, ok := OfTwo(sign); known[sign] == 0 && (op != 0 || ok) {
			t.Errorf("OfTwo(%q) = %d, %t", sign, op, ok)
		}
	}
}

func TestLevel(t *testing.T) {
	seen := 0
	for i, list := range levels() {
		for _, op := range list {
			seen++
			if n := Level(op); n != i+1 {
				t.Errorf("Level(%d) = %d; want %d", op, n, i+1)
			}
		}
	}
	if seen != 13 {
		t.Errorf("%d operations have a level", seen)
	}
	for _, op := range beyond() {
		if n := Level(op); n != 7 {
			t.Errorf("Level(%d) = %d; want 7", op, n)
		}
	}
}

// The first of two, and the one of one, stand in brackets if they bind looser; the second also on the same level.
func TestInBrackets(t *testing.T) {
	for i, list := range levels() {
		for _, op := range list {
			for level := 1; level <= Closest; level++ {
				if is := InBrackets(op, 0, level); is != (level < i+1) {
					t.Errorf("InBrackets(%d, 0, %d) is %t", op, level, is)
				}
				if is := InBrackets(op, 1, level); is != (level <= i+1) {
					t.Errorf("InBrackets(%d, 1, %d) is %t", op, level, is)
				}
			}
		}
	}
}
