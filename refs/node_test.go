package refs

import (
	"math"
	"reflect"
	"strings"
	"testing"

	"oriel/api"
)

// says holds Check against what is written down.
func says(t *testing.T, n api.Node, may bool) {
	t.Helper()
	want := api.ErrNode
	if may {
		want = api.OK
	}
	if code := Check(whole(n)); code != want {
		t.Errorf("with %+v: Check = %d; want %d", n, code, want)
	}
	if bad := against(whole(n)); bad != "" {
		t.Errorf("with %+v: %s", n, bad)
	}
}

// P5.1: nodes of each kind, which may be and which may not.
func TestNodes(t *testing.T) {
	for _, n := range goodNodes() {
		says(t, n, true)
	}
	for _, n := range wrongNodes() {
		says(t, n, false)
	}
}

// P5.1: a formula of one node may be, if that works on nothing and is no rectangle.
func TestOneNode(t *testing.T) {
	for _, n := range append(goodNodes(), wrongNodes()...) {
		want := api.ErrNode
		if modelNode(n) && (n.Kind == 1 || n.Kind == 2 || n.Kind == 5 && n.Args == 0) {
			want = api.OK
		}
		if code := Check(formula(n)); code != want {
			t.Errorf("Check of %+v alone = %d; want %d", n, code, want)
		}
		if bad := against(formula(n)); bad != "" {
			t.Errorf("%+v alone: %s", n, bad)
		}
	}
}

// P5.1: a field that the kind does not have makes a node one that may not be, however it is filled; so does another kind.
func TestFields(t *testing.T) {
	fills := []api.Node{
		{Value: api.Value{Tag: api.Number}}, {Value: api.Value{Num: 1}}, {Value: api.Value{Str: "a"}}, {Value: api.Value{Is: true}}, {Value: api.Value{Code: 2}}, {Value: api.Value{Tag: api.Bool, Is: true}},
		{Cell: api.Cell{Row: 1}}, {Cell: api.Cell{Col: 1}}, {Cell: api.Cell{Row: 1, Col: 1}},
		{Rect: api.Rect{Top: 1}}, {Rect: api.Rect{Left: 1}}, {Rect: api.Rect{Bottom: 1}}, {Rect: api.Rect{Right: 1}}, {Rect: api.Rect{Top: 1, Left: 1, Bottom: 1, Right: 1}},
		{Op: 1}, {Op: 5}, {Op: -1}, {Op: math.MaxInt}, {Name: "A"}, {Name: " "}, {Name: "SUM"}, {Args: 1}, {Args: -1}, {Args: math.MinInt},
	}
	for _, n := range goodNodes() {
		for _, fill := range fills {
			mixed, own := n, true
			from, to := reflect.ValueOf(fill), reflect.ValueOf(&mixed).Elem()
			for i := range from.NumField() {
				if from.Field(i).IsZero() {
					continue
				}
				for _, name := range fieldsOf[n.Kind] {
					own = own && name != from.Type().Field(i).Name
				}
				to.Field(i).Set(from.Field(i))
			}
			// With what the node itself works on: nothing else is wrong then.
			f := whole(n)
			for i := range f.Nodes {
				if f.Nodes[i] == n {
					f.Nodes[i] = mixed
				}
			}
			if own && Check(f) != api.ErrNode {
				t.Errorf("%+v may be", mixed)
			}
			if bad := against(f); bad != "" {
				t.Errorf("%+v: %s", mixed, bad)
			}
		}
	}
	for _, n := range goodNodes() {
		for _, kind := range []int{-1, 0, 1, 2, 3, 4, 5, 6} {
			other := n
			other.Kind = kind
			if kind != n.Kind {
				says(t, other, false)
			}
		}
	}
}

// P5.1: values with each tag; of a number what is not below 0, of a fault all but CodeCycle.
func TestValues(t *testing.T) {
	for tag := api.Tag(-2); tag <= 7; tag++ {
		for _, x := range []int64{math.MinInt64, -math.MaxInt64, -10000, -1, 0, 1, 10000, math.MaxInt64} {
			n := api.Node{Kind: api.NodeValue, Value: api.Value{Tag: tag, Num: x}}
			says(t, n, tag == api.Number && x >= 0 || x == 0 && (tag == api.Text || tag == api.Bool))
		}
		for code := api.Code(-1); code <= 10; code++ {
			n := api.Node{Kind: api.NodeValue, Value: api.Value{Tag: tag, Code: code}}
			says(t, n, tag == api.Fault && code >= api.CodeNum && code <= api.CodeArg || code == 0 && tag >= api.Number && tag <= api.Bool)
		}
		for _, s := range []string{"", "a", "(", strings.Repeat("x", 1<<16)} {
			n := api.Node{Kind: api.NodeValue, Value: api.Value{Tag: tag, Str: s}}
			says(t, n, tag == api.Text || s == "" && (tag == api.Number || tag == api.Bool))
		}
		says(t, api.Node{Kind: api.NodeValue, Value: api.Value{Tag: tag, Is: true}}, tag == api.Bool)
	}
}

// P5.1: cells and rectangles at the sheet's edges and beyond.
func TestPlaces(t *testing.T) {
	rows, cols := []int{math.MinInt, -1, 0, 1, 2, 4095, 4096, 4097, math.MaxInt}, []int{math.MinInt, -1, 0, 1, 2, 255, 256, 257, math.MaxInt}
	for _, row := range rows {
		for _, col := range cols {
			says(t, cell(row, col), modelPlace(row, col))
			for _, last := range rows {
				for _, right := range cols {
					says(t, rect(row, col, last, right), modelPlace(row, col) && modelPlace(last, right) && row <= last && col <= right)
				}
			}
		}
	}
}

// P5.1: operations from OpNeg to OpGe, and beyond; each has as many things ahead of it as it works on, no fewer.
func TestOperations(t *testing.T) {
	for n := -3; n <= 20; n++ {
		says(t, op(n), n >= api.OpNeg && n <= api.OpGe)
		for count := range 4 {
			need := 2
			if n == api.OpNeg || n == api.OpPct {
				need = 1
			}
			want := api.ErrNode
			if n >= 1 && n <= 13 && count == need {
				want = api.OK
			}
			if code := Check(join(times(count, cell(1, 1)), times(1, op(n)))); code != want {
				t.Errorf("the operation %d behind %d things: %d; want %d", n, count, code, want)
			}
		}
	}
}

// P5.1: the names of calls that the chapter tells of.
func TestNames(t *testing.T) {
	for _, name := range []string{
		"A", "Z", "SUM", "A1B", "A_1", "A_", "A__", "A1_", "AB12C", "AB12_", "A1B2", "A1_1", "TRUE_", "TRUEX", "ATRUE", "TRU", "FALS", "FALSE0X", "TRUEFALSE", "R1C1", "L_1",
		"ABCDEFGHIJKLMNOP", "A23456789012345_", "A_34567890123456", "ZZZZZZZZZZZZZZZZ",
	} {
		says(t, call(name, 0), true)
	}
	for _, name := range []string{
		"", "TRUE", "FALSE", "AB12", "A1", "A0", "A00", "ZZ9", "Z9999999", "TRUE1", "FALSE0", "ABCDEFGHIJKLMNO1", "A234567890123456",
		"ABCDEFGHIJKLMNOPQ", "A2345678901234567", "A_345678901234567", strings.Repeat("A", 1<<16),
		"a", "sum", "Sum", "SUm", "1", "1A", "_", "_A", "0", "9_", " ", "A ", " A", "A B", "A-B", "A.B", "A!", "A(", "A\x00", "\x00A", "Ä", "AÄ", "A\xff", "\xff", "A@", "A[", "A`", "A{", "A/", "A:", "@A", "[A",
	} {
		says(t, call(name, 0), false)
	}
}

// P5.1: names byte by byte, at the first place and behind it.
func TestNameBytes(t *testing.T) {
	for b := range 256 {
		one := string([]byte{byte(b)})
		letter, digit := b >= 'A' && b <= 'Z', b >= '0' && b <= '9'
		says(t, call(one, 0), letter)
		says(t, call(one+"_", 0), letter)
		says(t, call("A"+one, 0), letter || b == '_')
		says(t, call("A"+one+"_", 0), letter || digit || b == '_')
		says(t, call("A1"+one, 0), letter || b == '_')
		says(t, call("ABCDEFGHIJKLMN_"+one, 0), letter || digit || b == '_')
		says(t, call("ABCDEFGHIJKLMN_"+one+"A", 0), false)
	}
}

// P5.1: all short names over some bytes are as the patterns say.
func TestShortNames(t *testing.T) {
	names := []string{""}
	for at := 0; at < len(names); at++ {
		if name := names[at]; len(name) < 5 {
			for _, b := range "AZ19_a" {
				names = append(names, name+string(b))
			}
		}
	}
	for _, name := range names {
		if may := Check(formula(call(name, 0))) == api.OK; may != modelName(name) {
			t.Fatalf("a call of %q: %t", name, may)
		}
	}
}

// P5.1: calls of 0 to MaxArgs arguments, and of more; each has them ahead of it, no fewer.
func TestArgs(t *testing.T) {
	for _, args := range []int{math.MinInt, -1, 0, 1, 2, 15, 16, 17, 256, math.MaxInt} {
		says(t, call("SUM", args), args >= 0 && args <= api.MaxArgs)
		for count := range 20 {
			want := api.ErrNode
			if count == args && args <= api.MaxArgs {
				want = api.OK
			}
			if code := Check(join(times(count, rect(1, 1, 2, 2)), times(1, call("SUM", args)))); code != want {
				t.Errorf("a call of %d arguments behind %d: %d; want %d", args, count, code, want)
			}
		}
	}
}
