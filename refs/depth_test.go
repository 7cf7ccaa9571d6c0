package refs

import (
	"slices"
	"testing"

	"oriel/api"
)

// P5.3: the depths of formulas whose texts are written down.
func TestDepths(t *testing.T) {
	a, neg, pct := cell(1, 1), op(api.OpNeg), op(api.OpPct)
	add, sub, mul, div, cat, eq, lt := op(api.OpAdd), op(api.OpSub), op(api.OpMul), op(api.OpDiv), op(api.OpCat), op(api.OpEq), op(api.OpLt)
	for _, c := range []struct {
		text  string
		nodes []api.Node
		want  int
	}{
		{`=A1`, []api.Node{a}, 0},
		{`="(("`, []api.Node{text("((")}, 0},
		{`=A()`, []api.Node{call("A", 0)}, 1},
		{`=A(A1)`, []api.Node{a, call("A", 1)}, 1},
		{`=A(A1,A1)`, []api.Node{a, a, call("A", 2)}, 1},
		{`=A(B(),C(D()))`, []api.Node{call("B", 0), call("D", 0), call("C", 1), call("A", 2)}, 3},
		{`=A(C(D()),B())`, []api.Node{call("D", 0), call("C", 1), call("B", 0), call("A", 2)}, 3},
		{`=A()+B()`, []api.Node{call("A", 0), call("B", 0), add}, 1},
		{`=A(A1+A1)`, []api.Node{a, a, add, call("A", 1)}, 1},
		{`=A((A1+A1)*A1)`, []api.Node{a, a, add, a, mul, call("A", 1)}, 2},
		{`=(A(A1)+A1)*A1`, []api.Node{a, call("A", 1), a, add, a, mul}, 2},
		{`=A1-A1-A1`, []api.Node{a, a, sub, a, sub}, 0},
		{`=A1-(A1-A1)`, []api.Node{a, a, a, sub, sub}, 1},
		{`=A1+(A1-A1)`, []api.Node{a, a, a, sub, add}, 1},
		{`=A1/(A1*A1)`, []api.Node{a, a, a, mul, div}, 1},
		{`=A1*A1/A1`, []api.Node{a, a, mul, a, div}, 0},
		{`=A1&A1&A1`, []api.Node{a, a, cat, a, cat}, 0},
		{`=A1&(A1&A1)`, []api.Node{a, a, a, cat, cat}, 1},
		{`=A1<A1=A1`, []api.Node{a, a, lt, a, eq}, 0},
		{`=A1<(A1=A1)`, []api.Node{a, a, a, eq, lt}, 1},
		{`=(A1<A1)&A1`, []api.Node{a, a, lt, a, cat}, 1},
		{`=A1&A1<A1`, []api.Node{a, a, cat, a, lt}, 0},
		{`=(A1+A1)*(A1+A1)`, []api.Node{a, a, add, a, a, add, mul}, 1},
		{`=((A1+A1)*A1+A1)*A1`, []api.Node{a, a, add, a, mul, a, add, a, mul}, 2},
		{`=--A1`, []api.Node{a, neg, neg}, 0},
		{`=A1%%`, []api.Node{a, pct, pct}, 0},
		{`=-A1%`, []api.Node{a, pct, neg}, 0},
		{`=(-A1)%`, []api.Node{a, neg, pct}, 1},
		{`=(-(-A1)%)%`, []api.Node{a, neg, pct, neg, pct}, 2},
		{`=-(A1*A1)`, []api.Node{a, a, mul, neg}, 1},
		{`=-A1*A1`, []api.Node{a, neg, a, mul}, 0},
		{`=A1*-A1`, []api.Node{a, a, neg, mul}, 0},
		{`=(A1*A1)%`, []api.Node{a, a, mul, pct}, 1},
		{`=A1*A1%`, []api.Node{a, a, pct, mul}, 0},
		{`=-(A1=A1)`, []api.Node{a, a, eq, neg}, 1},
		{`=-A()`, []api.Node{call("A", 0), neg}, 1},
	} {
		f := formula(c.nodes...)
		if tree, _, _ := apart(c.nodes); open(write(tree)) != c.want {
			t.Errorf("%s: the model writes %s", c.text, write(tree))
		}
		if depth := Depth(f); depth != c.want {
			t.Errorf("%s: Depth = %d; want %d", c.text, depth, c.want)
		}
		if code := Check(f); code != api.OK {
			t.Errorf("%s: Check = %d", c.text, code)
		}
	}
}

// P5.3: each operation within each other one, at each place.
func TestPairs(t *testing.T) {
	a := cell(1, 1)
	for outer := api.OpNeg; outer <= api.OpGe; outer++ {
		for inner := api.OpNeg; inner <= api.OpGe; inner++ {
			part := whole(op(inner)).Nodes
			first := slices.Concat(part, []api.Node{a, op(outer)})
			if outer <= api.OpPct {
				first = slices.Concat(part, []api.Node{op(outer)})
			}
			looser := binding[inner] < binding[outer]
			if depth := Depth(formula(first...)); (depth == 1) != looser || depth > 1 {
				t.Errorf("%d as the first of %d: depth %d", inner, outer, depth)
			}
			if outer <= api.OpPct {
				continue
			}
			second := slices.Concat([]api.Node{a}, part, []api.Node{op(outer)})
			notCloser := binding[inner] <= binding[outer]
			if depth := Depth(formula(second...)); (depth == 1) != notCloser || depth > 1 {
				t.Errorf("%d as the second of %d: depth %d", inner, outer, depth)
			}
		}
	}
}

// nests are ways to nest a formula within another, with one bracket each time.
func nests() map[string]func(nodes []api.Node) []api.Node {
	a := cell(1, 1)
	return map[string]func([]api.Node) []api.Node{
		"call": func(n []api.Node) []api.Node { return append(n, call("ABS", 1)) },
		"call, last": func(n []api.Node) []api.Node {
			return slices.Concat([]api.Node{a, rect(1, 1, 2, 2)}, n, []api.Node{call("ABS", 3)})
		},
		"second":       func(n []api.Node) []api.Node { return slices.Concat([]api.Node{a}, n, []api.Node{op(api.OpSub)}) },
		"first":        func(n []api.Node) []api.Node { return append(n, a, op(api.OpMul), a, op(api.OpAdd)) },
		"neg of a sum": func(n []api.Node) []api.Node { return append(n, op(api.OpNeg), a, op(api.OpGt)) },
		"pct of a neg": func(n []api.Node) []api.Node { return append(n, op(api.OpPct), op(api.OpNeg)) },
		"a text beside": func(n []api.Node) []api.Node {
			return slices.Concat([]api.Node{text("((((")}, n, []api.Node{op(api.OpCat)})
		},
	}
}

// P5.1, P5.3: depth 32 may be, 33 may not; Depth tells also what is above.
func TestDepthEdge(t *testing.T) {
	inner := map[string][]api.Node{
		"second": {cell(1, 1), cell(1, 1), op(api.OpSub)}, "first": {cell(1, 1), cell(1, 1), op(api.OpAdd)}, "neg of a sum": {cell(1, 1), cell(1, 1), op(api.OpGt)},
		"pct of a neg": {cell(1, 1), op(api.OpNeg)}, "a text beside": {cell(1, 1), cell(1, 1), op(api.OpCat)},
	}
	for name, nest := range nests() {
		nodes := inner[name]
		if nodes == nil {
			nodes = []api.Node{cell(1, 1)}
		}
		for depth := range 200 {
			f := formula(nodes...)
			if len(nodes) > api.MaxNodes {
				break
			}
			if got := Depth(f); got != depth {
				t.Fatalf("%s: Depth = %d; want %d", name, got, depth)
			}
			want, refs := api.OK, true
			if depth > api.MaxDepth {
				want, refs = api.ErrNode, false
			}
			if code := Check(f); code != want {
				t.Fatalf("%s, %d deep: Check = %d; want %d", name, depth, code, want)
			}
			if (len(Of(f)) > 0) != refs {
				t.Fatalf("%s, %d deep: Of = %+v", name, depth, Of(f))
			}
			nodes = nest(slices.Clone(nodes))
		}
	}
}

// P5.3: a formula of MaxNodes nodes, all calls but one: as deep as one may be.
func TestDeepest(t *testing.T) {
	if depth := Depth(join(times(1, cell(1, 1)), times(1023, call("A", 1)))); depth != 1023 {
		t.Errorf("Depth = %d", depth)
	}
	if depth := Depth(join(times(1, cell(1, 1)), times(1024, call("A", 1)))); depth != 0 {
		t.Errorf("Depth of too many nodes = %d", depth)
	}
}

// P5.3: 0, if something else than the depth is wrong, also where the depth is wrong too, wherever it stands.
func TestDepthOfRefused(t *testing.T) {
	for _, calls := range []int{1, 5, 32, 33, 100} {
		deep := join(times(1, cell(1, 1)), times(calls, call("A", 1))).Nodes
		if Depth(formula(deep...)) != calls {
			t.Fatalf("Depth = %d; want %d", Depth(formula(deep...)), calls)
		}
		lists := [][]api.Node{
			slices.Concat(deep, deep), slices.Concat(deep, times(1, op(api.OpAdd))), slices.Concat(deep, times(1, rect(1, 1, 2, 2))), slices.Concat(times(1, rect(1, 1, 2, 2)), deep),
			slices.Concat(deep, []api.Node{rect(1, 1, 2, 2), op(api.OpAdd)}), slices.Concat(deep, times(1, call("A", 2))), deep[1:], slices.Concat(deep, times(1025-len(deep), op(api.OpNeg))),
		}
		for _, n := range wrongNodes() {
			lists = append(lists, slices.Concat(deep, []api.Node{n}), slices.Concat([]api.Node{n}, deep[1:]), slices.Concat(deep, []api.Node{n, op(api.OpAdd)}))
		}
		for _, list := range lists {
			if depth, code := Depth(formula(list...)), Check(formula(list...)); depth != 0 || code != api.ErrNode {
				t.Errorf("%+v: Depth = %d, Check = %d", list, depth, code)
			}
		}
	}
}
