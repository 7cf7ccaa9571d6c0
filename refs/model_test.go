package refs

import (
	"math"
	"reflect"
	"regexp"
	"slices"
	"strconv"
	"strings"

	"oriel/api"
)

// The model: a formula is taken apart from its last node on, written out as chapter 7 says, and the brackets of that text are counted.

func number(x int64) api.Node {
	return api.Node{Kind: 1, Value: api.Value{Tag: api.Number, Num: x}}
}

func text(s string) api.Node {
	return api.Node{Kind: 1, Value: api.Value{Tag: api.Text, Str: s}}
}

func cell(row, col int) api.Node {
	return api.Node{Kind: 2, Cell: api.Cell{Row: row, Col: col}}
}

func rect(top, left, bottom, right int) api.Node {
	return api.Node{Kind: 3, Rect: api.Rect{Top: top, Left: left, Bottom: bottom, Right: right}}
}

func op(n int) api.Node { return api.Node{Kind: 4, Op: n} }

func call(name string, args int) api.Node {
	return api.Node{Kind: 5, Name: name, Args: args}
}

func formula(nodes ...api.Node) api.Formula { return api.Formula{Nodes: nodes} }

// times is a node so many times.
func times(n int, node api.Node) []api.Node { return slices.Repeat([]api.Node{node}, n) }

// join lays lists of nodes behind one another.
func join(lists ...[]api.Node) api.Formula { return formula(slices.Concat(lists...)...) }

// fieldsOf are the fields that a kind has.
var fieldsOf = map[int][]string{1: {"Value"}, 2: {"Cell"}, 3: {"Rect"}, 4: {"Op"}, 5: {"Name", "Args"}}

// modelNode tells whether a node may be.
func modelNode(n api.Node) bool {
	fields, known := fieldsOf[n.Kind]
	all := reflect.ValueOf(n)
	for i := range all.NumField() {
		name := all.Type().Field(i).Name
		if name != "Kind" && !slices.Contains(fields, name) && !all.Field(i).IsZero() {
			return false
		}
	}
	switch n.Kind {
	case 1:
		return modelValue(n.Value)
	case 2:
		return modelPlace(n.Cell.Row, n.Cell.Col)
	case 3:
		r := n.Rect
		return modelPlace(r.Top, r.Left) && modelPlace(r.Bottom, r.Right) && r.Top <= r.Bottom && r.Left <= r.Right
	case 4:
		return 1 <= n.Op && n.Op <= 13
	case 5:
		return modelName(n.Name) && 0 <= n.Args && n.Args <= 16
	}
	return known
}

func modelValue(v api.Value) bool {
	for _, may := range []api.Value{
		{Tag: 1, Num: max(v.Num, 0)}, {Tag: 2, Str: v.Str}, {Tag: 3}, {Tag: 3, Is: true}, {Tag: 4, Code: min(max(v.Code, 2), 8)},
	} {
		if v == may {
			return true
		}
	}
	return false
}

func modelPlace(row, col int) bool { return 1 <= row && row <= 4096 && 1 <= col && col <= 256 }

var (
	namePattern = regexp.MustCompile(`^[A-Z][A-Z0-9_]{0,15}$`)
	cellPattern = regexp.MustCompile(`^[A-Z]+[0-9]+$`)
)

func modelName(s string) bool {
	return namePattern.MatchString(s) && !cellPattern.MatchString(s) && s != "TRUE" && s != "FALSE"
}

// tree is a node over what it works on.
type tree struct {
	node  api.Node
	under []tree
}

// apart takes the last node, and what it works on, from the end of a list; false: there is too little.
func apart(nodes []api.Node) (tree, []api.Node, bool) {
	if len(nodes) == 0 {
		return tree{}, nil, false
	}
	last := len(nodes) - 1
	t, rest := tree{node: nodes[last]}, nodes[:last]
	count := t.node.Args
	if t.node.Kind == 4 {
		count = 2
		if t.node.Op <= 2 {
			count = 1
		}
	}
	for range count {
		one, before, ok := apart(rest)
		if !ok || one.node.Kind == 3 && t.node.Kind != 5 {
			return tree{}, nil, false
		}
		t.under, rest = slices.Insert(t.under, 0, one), before
	}
	return t, rest, true
}

// signs are those of the operations from 1 on; binding the level of each.
var (
	signs   = []string{"", "-", "%", "*", "/", "+", "-", "&", "=", "<>", "<", "<=", ">", ">="}
	binding = []int{7, 5, 6, 4, 4, 3, 3, 2, 1, 1, 1, 1, 1, 1}
)

// write is a tree's text, with `x` in the place of what has no brackets.
func write(t tree) string {
	switch {
	case t.node.Kind == 5:
		var list []string
		for _, one := range t.under {
			list = append(list, write(one))
		}
		return t.node.Name + "(" + strings.Join(list, ",") + ")"
	case t.node.Kind != 4:
		return "x"
	case t.node.Op == 1:
		return "-" + around(t.under[0], 5)
	case t.node.Op == 2:
		return around(t.under[0], 6) + "%"
	}
	level := binding[t.node.Op]
	return around(t.under[0], level) + signs[t.node.Op] + around(t.under[1], level+1)
}

// around is a tree's text, in brackets if it binds looser than that.
func around(t tree, level int) string {
	if binding[t.node.Op] < level {
		return "(" + write(t) + ")"
	}
	return write(t)
}

// open is how many brackets are open at most in a text.
func open(s string) int {
	now, most := 0, 0
	for _, c := range s {
		switch c {
		case '(':
			now++
		case ')':
			now--
		}
		most = max(most, now)
	}
	return most
}

// modelDepth is a formula's depth, and whether nothing else is wrong with it.
func modelDepth(f api.Formula) (int, bool) {
	if len(f.Nodes) > 1024 {
		return 0, false
	}
	for _, n := range f.Nodes {
		if !modelNode(n) {
			return 0, false
		}
	}
	t, rest, ok := apart(f.Nodes)
	if !ok || len(rest) > 0 || t.node.Kind == 3 {
		return 0, false
	}
	return open(write(t)), true
}

// modelOf is a formula's references.
func modelOf(f api.Formula) []api.Ref {
	if depth, ok := modelDepth(f); !ok || depth > 32 {
		return nil
	}
	var list []api.Ref
	for _, n := range f.Nodes {
		one := api.Ref{Many: n.Kind == 3, Rect: n.Rect}
		if n.Kind == 2 {
			one.Rect = api.Rect{Top: n.Cell.Row, Left: n.Cell.Col, Bottom: n.Cell.Row, Right: n.Cell.Col}
		}
		if (n.Kind == 2 || n.Kind == 3) && !slices.Contains(list, one) {
			list = append(list, one)
		}
	}
	return list
}

// against tells what a formula is answered otherwise than the model says; the empty text: nothing.
func against(f api.Formula) string {
	before := slices.Clone(f.Nodes)
	depth, ok := modelDepth(f)
	want := api.OK
	if !ok || depth > 32 {
		want = api.ErrNode
	}
	switch {
	case Check(f) != want:
		return "Check = " + strconv.Itoa(int(Check(f))) + "; want " + strconv.Itoa(int(want))
	case Depth(f) != depth:
		return "Depth = " + strconv.Itoa(Depth(f)) + "; want " + strconv.Itoa(depth)
	case !slices.Equal(Of(f), modelOf(f)):
		return "Of is not that of the model"
	case !slices.Equal(f.Nodes, before):
		return "the formula was changed"
	}
	return ""
}

// wrongNodes are nodes that may not be.
func wrongNodes() []api.Node {
	list := []api.Node{
		{}, {Kind: -1}, {Kind: 6}, {Kind: 256 + 4, Op: 3}, {Kind: math.MaxInt}, {Kind: math.MinInt},
		{Kind: 1}, {Kind: 2}, {Kind: 3}, {Kind: 4}, {Kind: 5},
		number(-1), number(-10000), number(-math.MaxInt64), number(math.MinInt64),
		{Kind: 1, Value: api.Value{Tag: api.Fault}}, {Kind: 1, Value: api.Value{Tag: api.Fault, Code: api.CodeCycle}},
		{Kind: 1, Value: api.Value{Tag: api.Fault, Code: 9}}, {Kind: 1, Value: api.Value{Tag: api.Fault, Code: -1}},
		{Kind: 1, Value: api.Value{Tag: 5}}, {Kind: 1, Value: api.Value{Tag: -1}},
		{Kind: 1, Value: api.Value{Tag: api.Number, Is: true}}, {Kind: 1, Value: api.Value{Tag: api.Number, Num: 1, Str: "1"}},
		{Kind: 1, Value: api.Value{Tag: api.Text, Str: "a", Num: 1}}, {Kind: 1, Value: api.Value{Tag: api.Bool, Is: true, Code: 3}},
		{Kind: 1, Value: api.Value{Tag: api.Fault, Code: 3, Num: 1}}, {Kind: 1, Value: api.Value{Num: 1}},
		cell(0, 1), cell(1, 0), cell(4097, 1), cell(1, 257), cell(-1, 1), cell(1, -1), cell(math.MaxInt, 1), cell(1, math.MinInt),
		rect(0, 1, 1, 1), rect(1, 0, 1, 1), rect(1, 1, 4097, 1), rect(1, 1, 1, 257), rect(2, 1, 1, 1), rect(1, 2, 1, 1), rect(4097, 257, 4097, 257),
		op(-1), op(14), op(256 + 3), op(math.MaxInt), op(math.MinInt),
		call("A", -1), call("A", 17), call("A", math.MinInt), call("A", math.MaxInt), call("TRUE", 0), call("FALSE", 0), call("AB12", 0),
	}
	return list
}

// goodNodes are nodes that may be.
func goodNodes() []api.Node {
	list := []api.Node{
		number(0), number(1), number(math.MaxInt64), text(""), text("a"), text("(("), text("\xff\x00"), text(strings.Repeat("(", 1025)),
		{Kind: 1, Value: api.Value{Tag: api.Bool}}, {Kind: 1, Value: api.Value{Tag: api.Bool, Is: true}},
		cell(1, 1), cell(4096, 256), cell(1, 256), cell(4096, 1),
		rect(1, 1, 1, 1), rect(1, 1, 4096, 256), rect(4096, 256, 4096, 256), rect(2, 3, 4, 5),
		call("A", 0), call("SUM", 0), call("MAX", 1), call("IF", 3), call("ABCDEFGHIJKLMNOP", 16),
	}
	for code := api.CodeNum; code <= api.CodeArg; code++ {
		list = append(list, api.Node{Kind: 1, Value: api.Value{Tag: api.Fault, Code: code}})
	}
	for n := 1; n <= 13; n++ {
		list = append(list, op(n))
	}
	return list
}

// whole is a formula in which a node stands, with what it works on ahead of it and, if it is a rectangle, a call behind it.
func whole(n api.Node) api.Formula {
	count := n.Args
	if n.Kind == 4 {
		count = 2
		if n.Op == 1 || n.Op == 2 {
			count = 1
		}
	}
	nodes := append(times(min(max(count, 0), 20), number(1)), n)
	if n.Kind == 3 {
		nodes = append(nodes, call("SUM", 1))
	}
	return formula(nodes...)
}
