package refs

import (
	"math/rand"
	"slices"
	"strings"
	"testing"

	"oriel/api"
)

// The examples of the chapter, and of the tables in it.
func TestExamples(t *testing.T) {
	n, a1, r, add, mul, sum := number(20000), cell(1, 1), rect(1, 1, 3, 2), op(api.OpAdd), op(api.OpMul), call("SUM", 1)
	for _, f := range []api.Formula{formula(n), formula(a1, n, add), formula(r, sum), formula(call("SUM", 0))} {
		if code := Check(f); code != api.OK {
			t.Errorf("Check(%+v) = %d", f, code)
		}
	}
	withOp := n
	withOp.Op = 1
	for _, f := range []api.Formula{
		formula(), formula(r), formula(a1, add), formula(a1, n), formula(r, n, add), formula(sum), formula(withOp),
		formula(api.Node{Kind: api.NodeValue}), formula(number(-1)), formula(api.Node{Kind: api.NodeValue, Value: api.Value{Tag: api.Fault, Code: api.CodeCycle}}),
		formula(call("AB12", 0)), formula(call("TRUE", 0)),
	} {
		if code := Check(f); code != api.ErrNode {
			t.Errorf("Check(%+v) = %d", f, code)
		}
	}
	want := []api.Ref{{Rect: api.Rect{Top: 1, Left: 1, Bottom: 1, Right: 1}}, {Many: true, Rect: api.Rect{Top: 1, Left: 1, Bottom: 3, Right: 2}}}
	if list := Of(formula(a1, r, sum, add, a1, add)); !slices.Equal(list, want) {
		t.Errorf("Of = %+v", list)
	}
	for i, f := range []api.Formula{formula(n), formula(r, sum), formula(a1, n, add, n, mul), formula(a1, n, n, mul, add)} {
		if depth := Depth(f); depth != []int{0, 1, 1, 0}[i] {
			t.Errorf("Depth(%+v) = %d", f, depth)
		}
	}
	if !Same(formula(n), formula(n)) || Same(formula(n), formula(a1)) {
		t.Error("Same")
	}
}

// P5.1, P5.3: all short formulas over some nodes are as the model says.
func TestShort(t *testing.T) {
	over := []api.Node{cell(2, 2), text("(("), rect(2, 2, 2, 2), op(api.OpNeg), op(api.OpPct), op(api.OpMul), op(api.OpSub), op(api.OpLe), call("A", 0), call("B", 1), call("C", 2), number(-1)}
	nodes := make([]api.Node, 0, 6)
	var grow func()
	grow = func() {
		if bad := against(formula(nodes...)); bad != "" {
			t.Fatalf("%+v: %s", nodes, bad)
		}
		if len(nodes) == 5 {
			return
		}
		for _, n := range over {
			nodes = append(nodes, n)
			grow()
			nodes = nodes[:len(nodes)-1]
		}
	}
	grow()
}

// build is a formula that may be but for its depth, of so many operations and calls at most.
func build(rnd *rand.Rand, size int) []api.Node {
	if size == 0 {
		return []api.Node{[]api.Node{number(int64(rnd.Intn(5))), cell(1+rnd.Intn(3), 1+rnd.Intn(2)), text(strings.Repeat("(", rnd.Intn(3))), call("NOW", 0)}[rnd.Intn(4)]}
	}
	if rnd.Intn(4) == 0 {
		args := 1 + rnd.Intn(4)
		main := rnd.Intn(args)
		var nodes []api.Node
		for place := range args {
			switch {
			case place == main:
				nodes = append(nodes, build(rnd, size-1)...)
			case rnd.Intn(2) == 0:
				nodes = append(nodes, rect(1, 1, 1+rnd.Intn(2), 1+rnd.Intn(2)))
			default:
				nodes = append(nodes, build(rnd, 0)...)
			}
		}
		return append(nodes, call("MAX", args))
	}
	which := 1 + rnd.Intn(13)
	if which <= 2 {
		return append(build(rnd, size-1), op(which))
	}
	left := rnd.Intn(size)
	if size > 12 {
		// Great ones lean to one side: so they get deep.
		left = rnd.Intn(3)
		if rnd.Intn(2) == 0 {
			left = size - 1 - left
		}
	}
	return append(append(build(rnd, left), build(rnd, size-1-left)...), op(which))
}

// P5.1 to P5.3: formulas of all sizes, whole ones and such with a node taken out, put in, changed, or with two that have changed places.
func TestBuilt(t *testing.T) {
	rnd := rand.New(rand.NewSource(5))
	others := append(goodNodes(), wrongNodes()...)
	deep := 0
	for round := range 6000 {
		nodes := build(rnd, rnd.Intn(12))
		if round%20 == 0 {
			nodes = build(rnd, 50+rnd.Intn(150))
		}
		if Depth(formula(nodes...)) > api.MaxDepth {
			deep++
		}
		if bad := against(formula(nodes...)); bad != "" {
			t.Fatalf("%+v: %s", nodes, bad)
		}
		at, from := rnd.Intn(len(nodes)), rnd.Intn(len(nodes))
		other := others[rnd.Intn(len(others))]
		swapped, changed := slices.Clone(nodes), slices.Clone(nodes)
		swapped[at], swapped[from] = swapped[from], swapped[at]
		changed[at] = other
		for _, list := range [][]api.Node{swapped, changed, slices.Insert(slices.Clone(nodes), at, other), slices.Delete(slices.Clone(nodes), at, at+1)} {
			if bad := against(formula(list...)); bad != "" {
				t.Fatalf("%+v: %s", list, bad)
			}
		}
	}
	if deep < 50 {
		t.Errorf("only %d formulas were too deep", deep)
	}
}

// P5.1: no node, MaxNodes nodes, and one more; of each kind of node.
func TestHowMany(t *testing.T) {
	for _, f := range []api.Formula{{}, {Nodes: []api.Node{}}, {Nodes: make([]api.Node, 0, 8)}} {
		if Check(f) != api.ErrNode || Depth(f) != 0 || len(Of(f)) != 0 {
			t.Error("a formula of no node may be")
		}
	}
	row := func(things int) api.Formula {
		f := formula(cell(1, 1))
		for len(f.Nodes)+2 <= things {
			f.Nodes = append(f.Nodes, cell(2, 1), op(api.OpAdd))
		}
		for len(f.Nodes) < things {
			f.Nodes = append(f.Nodes, op(api.OpPct))
		}
		return f
	}
	for _, make := range []func(int) api.Formula{
		row,
		func(count int) api.Formula { return join(times(1, cell(1, 1)), times(count-1, op(api.OpNeg))) },
		func(count int) api.Formula { return join(times(1, cell(1, 1)), times(count-1, op(api.OpPct))) },
	} {
		for _, count := range []int{1, 2, 1022, 1023, 1024} {
			if f := make(count); len(f.Nodes) != count || Check(f) != api.OK || len(Of(f)) == 0 {
				t.Errorf("a formula of %d nodes may not be", count)
			}
		}
		for _, count := range []int{1025, 1026, 2048, 1 << 16} {
			if f := make(count); Check(f) != api.ErrNode || Depth(f) != 0 || len(Of(f)) != 0 {
				t.Errorf("a formula of %d nodes may be", count)
			}
		}
	}
}

// P5.1: an operation or a call with too little ahead of it, also deep within, and where what follows would make up for it.
func TestTooFew(t *testing.T) {
	a, sub, neg := cell(1, 1), op(api.OpSub), op(api.OpNeg)
	for _, f := range []api.Formula{
		formula(sub), formula(neg), formula(op(api.OpPct)), formula(a, sub), formula(neg, a), formula(sub, a, a), formula(a, sub, a), formula(a, a, sub, sub),
		formula(a, a, sub, sub, a), formula(call("A", 1)), formula(call("A", 1), a), formula(a, call("A", 2)), formula(a, call("A", 2), a), formula(call("A", 16)),
		join(times(15, a), times(1, call("A", 16))), join(times(1023, sub), times(1, a)),
	} {
		if Check(f) != api.ErrNode || Depth(f) != 0 || Of(f) != nil {
			t.Errorf("%+v may be", f.Nodes)
		}
	}
}

// P5.1: more than one thing is left.
func TestLeft(t *testing.T) {
	a, sub := cell(1, 1), op(api.OpSub)
	for _, f := range []api.Formula{
		formula(a, a), formula(a, a, a), formula(a, a, a, sub), formula(a, a, op(api.OpNeg)), formula(a, call("A", 0)), formula(a, a, call("A", 1)),
		formula(call("A", 0), a), formula(rect(1, 1, 2, 2), a), formula(a, rect(1, 1, 2, 2)), formula(rect(1, 1, 2, 2), a, call("A", 1)), join(times(17, a), times(1, call("A", 16))),
		join(times(1024, a)), formula(call("A", 0), call("B", 0)),
	} {
		if Check(f) != api.ErrNode || Depth(f) != 0 || Of(f) != nil {
			t.Errorf("%+v may be", f.Nodes)
		}
	}
}

// P5.1: a rectangle is worked on by a call, at whichever place, never by an operation, nor is it left.
func TestRectangles(t *testing.T) {
	a, r := cell(1, 1), rect(1, 1, 1, 1)
	for n := api.OpNeg; n <= api.OpGe; n++ {
		for _, f := range []api.Formula{
			formula(r, op(n)), formula(r, a, op(n)), formula(a, r, op(n)), formula(r, r, op(n)),
			formula(r, op(n), call("A", 1)), formula(r, a, op(n), call("A", 1)), formula(a, r, op(n), call("A", 1)),
		} {
			if Check(f) != api.ErrNode || Depth(f) != 0 || Of(f) != nil {
				t.Errorf("%+v may be", f.Nodes)
			}
		}
	}
	if Check(formula(r)) != api.ErrNode || Depth(formula(r)) != 0 || Of(formula(r)) != nil {
		t.Error("a rectangle that is left may be")
	}
	for place := range api.MaxArgs {
		f := join(times(place, a), times(1, r), times(api.MaxArgs-place-1, a), times(1, call("A", api.MaxArgs)))
		if Check(f) != api.OK || Depth(f) != 1 || len(Of(f)) != 2 {
			t.Errorf("a rectangle as argument %d may not be", place)
		}
	}
	// What a call makes of it is no rectangle any more.
	if f := formula(r, call("A", 1), op(api.OpNeg)); Check(f) != api.OK {
		t.Error("a call may not be worked on")
	}
}

// P5.2: what formulas refer to, in the order in which they have it first, each once.
func TestOf(t *testing.T) {
	a, b, r, add := cell(1, 1), cell(4096, 256), rect(2, 3, 4, 5), op(api.OpAdd)
	one := func(row, col int) api.Ref {
		return api.Ref{Rect: api.Rect{Top: row, Left: col, Bottom: row, Right: col}}
	}
	many := func(r api.Node) api.Ref { return api.Ref{Many: true, Rect: r.Rect} }
	b2, b2b2 := cell(2, 2), rect(2, 2, 2, 2)
	for _, c := range []struct {
		f    api.Formula
		want []api.Ref
	}{
		{formula(number(1)), nil},
		{formula(text("A1")), nil},
		{formula(call("A", 0)), nil},
		{formula(a), []api.Ref{one(1, 1)}},
		{formula(b, a, add), []api.Ref{one(4096, 256), one(1, 1)}},
		{formula(a, a, add), []api.Ref{one(1, 1)}},
		{formula(a, b, add, a, add, b, add, a, add), []api.Ref{one(1, 1), one(4096, 256)}},
		{formula(r, call("A", 1)), []api.Ref{many(r)}},
		{formula(r, r, a, r, call("A", 4)), []api.Ref{many(r), one(1, 1)}},
		{formula(b2, b2b2, call("A", 2)), []api.Ref{one(2, 2), many(b2b2)}},
		{formula(b2b2, b2, b2b2, b2, call("A", 4)), []api.Ref{many(b2b2), one(2, 2)}},
		{formula(rect(1, 1, 2, 3), rect(1, 1, 3, 2), rect(1, 2, 2, 3), call("A", 3)), []api.Ref{many(rect(1, 1, 2, 3)), many(rect(1, 1, 3, 2)), many(rect(1, 2, 2, 3))}},
		{formula(cell(1, 2), cell(2, 1), add), []api.Ref{one(1, 2), one(2, 1)}},
	} {
		if list := Of(c.f); !slices.Equal(list, c.want) {
			t.Errorf("Of(%+v) = %+v; want %+v", c.f.Nodes, list, c.want)
		}
	}
}

// P5.2: of a formula that may not be none, whatever is wrong with it and wherever.
func TestOfNone(t *testing.T) {
	for _, n := range wrongNodes() {
		for _, f := range []api.Formula{formula(cell(1, 1), n), formula(n, cell(1, 1)), formula(cell(1, 1), n, op(api.OpAdd)), formula(cell(1, 1), n, call("A", 2))} {
			if list := Of(f); len(list) != 0 {
				t.Errorf("Of(%+v) = %+v", f.Nodes, list)
			}
		}
	}
	if list := Of(join(times(1, cell(1, 1)), times(33, call("A", 1)))); len(list) != 0 {
		t.Errorf("Of what is too deep = %+v", list)
	}
	if list := Of(join(times(1, cell(1, 1)), times(32, call("A", 1)))); len(list) != 1 {
		t.Errorf("Of what is just not too deep = %+v", list)
	}
}

// P5.5: each cell and rectangle is just one of the references, each reference is of a node; also of many.
func TestJustThese(t *testing.T) {
	rnd := rand.New(rand.NewSource(55))
	for range 60 {
		side := 1 + rnd.Intn(20)
		f := formula(cell(1+rnd.Intn(side), 1+rnd.Intn(side)))
		for len(f.Nodes)+3 <= api.MaxNodes {
			row, col := 1+rnd.Intn(side), 1+rnd.Intn(side)
			if rnd.Intn(2) == 0 {
				f.Nodes = append(f.Nodes, cell(row, col), op(api.OpAdd))
				continue
			}
			f.Nodes = append(f.Nodes, rect(row, col, row+rnd.Intn(2), col+rnd.Intn(2)), call("SUM", 1), op(api.OpAdd))
		}
		if Check(f) != api.OK {
			t.Fatal("it may not be")
		}
		list := Of(f)
		if !slices.Equal(list, modelOf(f)) {
			t.Fatal("not the references of the model")
		}
		count := map[api.Ref]int{}
		for _, one := range list {
			count[one]++
		}
		of := map[api.Ref]bool{}
		for _, n := range f.Nodes {
			for _, one := range modelOf(whole(n)) {
				if n.Kind == 2 || n.Kind == 3 {
					of[one] = true
				}
				if count[one] != 1 {
					t.Fatalf("%+v is told %d times", one, count[one])
				}
			}
		}
		if len(of) != len(list) {
			t.Fatalf("%d references of %d", len(list), len(of))
		}
	}
}

// P5.4: the same nodes, of any formulas.
func TestSame(t *testing.T) {
	list := []api.Formula{
		{}, join(times(1024, cell(1, 1))), join(times(1025, cell(1, 1))), join(times(1025, cell(1, 2))), join(times(2000, api.Node{})),
		formula(cell(1, 1), cell(1, 2)), formula(cell(1, 2), cell(1, 1)), formula(cell(1, 1), cell(1, 2), op(3)), formula(cell(1, 1), cell(1, 2), op(4)),
		formula(cell(1, 1), cell(1, 1)), join(times(1, cell(1, 1)), times(40, call("A", 1))), join(times(1, cell(1, 1)), times(40, call("B", 1))),
	}
	for _, n := range append(goodNodes(), wrongNodes()...) {
		list = append(list, formula(n))
	}
	mixed := api.Node{Kind: 9, Value: api.Value{Tag: 9, Num: 1, Str: "a", Is: true, Code: 9}, Cell: api.Cell{Row: 1, Col: 2}, Rect: api.Rect{Top: 1, Left: 2, Bottom: 3, Right: 4}, Op: 5, Name: "b", Args: 6}
	list = append(list, formula(mixed))
	for _, change := range []func(*api.Node){
		func(n *api.Node) { n.Kind++ }, func(n *api.Node) { n.Value.Tag++ }, func(n *api.Node) { n.Value.Num++ }, func(n *api.Node) { n.Value.Str += "a" },
		func(n *api.Node) { n.Value.Is = false }, func(n *api.Node) { n.Value.Code++ }, func(n *api.Node) { n.Cell.Row++ }, func(n *api.Node) { n.Cell.Col++ },
		func(n *api.Node) { n.Rect.Top++ }, func(n *api.Node) { n.Rect.Left++ }, func(n *api.Node) { n.Rect.Bottom++ }, func(n *api.Node) { n.Rect.Right++ },
		func(n *api.Node) { n.Op++ }, func(n *api.Node) { n.Name += "b" }, func(n *api.Node) { n.Args++ },
	} {
		other := mixed
		change(&other)
		list = append(list, formula(other))
	}
	for i, a := range list {
		for j, b := range list {
			if is := Same(a, b); is != (i == j) {
				t.Errorf("Same of %d and %d is %t", i, j, is)
			}
			if !Same(a, api.Formula{Nodes: slices.Clone(a.Nodes)}) {
				t.Errorf("%d is not the same as its copy", i)
			}
		}
	}
	if !Same(api.Formula{}, api.Formula{Nodes: make([]api.Node, 0, 4)}) {
		t.Error("nil and empty are one")
	}
	// Texts that are the same bytes at other places in memory.
	if !Same(formula(text("ab")), formula(text(strings.Clone("ab")))) {
		t.Error("the same text is another")
	}
}
