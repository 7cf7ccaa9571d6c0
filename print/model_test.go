package print

import (
	"fmt"
	"math/rand"
	"slices"
	"strconv"
	"strings"
	"testing"

	"oriel/api"
	"oriel/parse"
	"oriel/refs"
)

func number(x int64) api.Node {
	return api.Node{Kind: 1, Value: api.Value{Tag: api.Number, Num: x}}
}

func text(s string) api.Node {
	return api.Node{Kind: 1, Value: api.Value{Tag: api.Text, Str: s}}
}

func truth(is bool) api.Node {
	return api.Node{Kind: 1, Value: api.Value{Tag: api.Bool, Is: is}}
}

func fault(c api.Code) api.Node {
	return api.Node{Kind: 1, Value: api.Value{Tag: api.Fault, Code: c}}
}

func cell(row, col int) api.Node {
	return api.Node{Kind: 2, Cell: api.Cell{Row: row, Col: col}}
}

func rect(top, left, bottom, right int) api.Node {
	return api.Node{Kind: 3, Rect: api.Rect{Top: top, Left: left, Bottom: bottom, Right: right}}
}

func op(n int) api.Node { return api.Node{Kind: 4, Op: n} }

func fn(name string, args int) api.Node {
	return api.Node{Kind: 5, Name: name, Args: args}
}

// join lays lists of nodes behind one another.
func join(lists ...[]api.Node) []api.Node { return slices.Concat(lists...) }

// row is a list of nodes.
func row(nodes ...api.Node) []api.Node { return nodes }

// times is a row of nodes, so many times.
func times(n int, nodes ...api.Node) []api.Node { return slices.Repeat(nodes, n) }

// every is a table that knows all names, and takes all arguments.
type every struct{}

func (every) Known(string) bool { return true }

func (every) Takes(string, []bool) bool { return true }

// short cuts what is told of a text.
func short(s string) string {
	if len(s) > 120 {
		return fmt.Sprintf("%q .. %q (%d)", s[:60], s[len(s)-50:], len(s))
	}
	return fmt.Sprintf("%q", s)
}

// prints checks that nodes have this text, and are read out of it.
func prints(t *testing.T, want string, nodes ...api.Node) {
	t.Helper()
	got, code := Print(api.Formula{Nodes: nodes})
	if got != want || code != api.OK {
		t.Errorf("Print = %s, %d; want %s", short(got), code, short(want))
	}
	f, code, at := parse.Parse(got, every{})
	if code != api.OK || !slices.Equal(f.Nodes, nodes) {
		t.Errorf("%s is read otherwise: %d, %d", short(got), code, at)
	}
}

// refuses checks that nodes have no text.
func refuses(t *testing.T, why string, nodes ...api.Node) {
	t.Helper()
	if got, code := Print(api.Formula{Nodes: nodes}); got != "" || code != api.ErrNode {
		t.Errorf("%s: Print = %s, %d", why, short(got), code)
	}
}

// The model takes a formula apart from its last node on, and writes it from above: what stands over a thing says how close that must bind.

var (
	signs  = strings.Fields("? - % * / + - & = <> < <= > >=")
	levels = []int{7, 5, 6, 4, 4, 3, 3, 2, 1, 1, 1, 1, 1, 1}
	codes  = strings.Fields("? ? #NUM! #DIV! #TYPE! #RANGE! #MISS! #LONG! #ARG!")
)

// model is the text of the last thing of a list, if that must bind on a level or closer, and what of the list stands ahead of it.
func model(nodes []api.Node, level int) (string, []api.Node) {
	last := len(nodes) - 1
	n, rest := nodes[last], nodes[:last]
	own := levels[n.Op]
	var s string
	switch {
	case n.Kind == 5:
		list := make([]string, n.Args)
		for i := range list {
			list[n.Args-1-i], rest = model(rest, 1)
		}
		s = n.Name + "(" + strings.Join(list, ",") + ")"
	case n.Kind != 4:
		s = modelLeaf(n)
	case n.Op == 1:
		s, rest = model(rest, 5)
		s = "-" + s
	case n.Op == 2:
		s, rest = model(rest, 6)
		s += "%"
	default:
		var first string
		s, rest = model(rest, own+1)
		first, rest = model(rest, own)
		s = first + signs[n.Op] + s
	}
	if own < level {
		s = "(" + s + ")"
	}
	return s, rest
}

func modelLeaf(n api.Node) string {
	switch {
	case n.Kind == 2:
		return modelCell(n.Cell.Row, n.Cell.Col)
	case n.Kind == 3:
		return modelCell(n.Rect.Top, n.Rect.Left) + ":" + modelCell(n.Rect.Bottom, n.Rect.Right)
	case n.Value.Tag == api.Number:
		s := fmt.Sprintf("%d.%04d", n.Value.Num/10000, n.Value.Num%10000)
		return strings.TrimSuffix(strings.TrimRight(s, "0"), ".")
	case n.Value.Tag == api.Text:
		return `"` + strings.Join(strings.Split(n.Value.Str, `"`), `""`) + `"`
	case n.Value.Tag == api.Bool:
		return strings.ToUpper(strconv.FormatBool(n.Value.Is))
	}
	return codes[n.Value.Code]
}

func modelCell(row, col int) string {
	name := ""
	for ; col > 0; col = (col - 1) / 26 {
		name = string(rune('A'+(col-1)%26)) + name
	}
	return name + strconv.Itoa(row)
}

// against holds Print against refs.Check and the model, and its text against what is read out of it; "" if all is well.
func against(nodes []api.Node) string {
	f := api.Formula{Nodes: nodes}
	before := slices.Clone(nodes)
	got, code := Print(f)
	if !slices.Equal(nodes, before) {
		return fmt.Sprintf("%+v was changed into %+v", before, nodes)
	}
	if refs.Check(f) != api.OK {
		if got != "" || code != api.ErrNode {
			return fmt.Sprintf("Print(%+v) = %s, %d", nodes, short(got), code)
		}
		return ""
	}
	want, rest := model(nodes, 1)
	if got != "="+want || code != api.OK || len(rest) > 0 {
		return fmt.Sprintf("Print(%+v) = %s, %d; the model: %s", nodes, short(got), code, short("="+want))
	}
	if back, code, at := parse.Parse(got, every{}); code != api.OK || !refs.Same(back, f) {
		return fmt.Sprintf("%s is read otherwise: %d, %d", short(got), code, at)
	}
	return ""
}

// leaves are nodes that work on nothing, of each kind but a rectangle.
func leaves() []api.Node {
	return []api.Node{
		number(0), number(1), number(10000), number(25000), number(1<<63 - 1), text(""), text(" "), text("a"), text(`a"b`), text(`"`), text(`""`), text("(A1+2)*2"), text("\x00\xff"),
		truth(true), truth(false), fault(api.CodeNum), fault(api.CodeDiv), fault(api.CodeType), fault(api.CodeRange), fault(api.CodeMiss), fault(api.CodeLong), fault(api.CodeArg),
		cell(1, 1), cell(4096, 256), cell(10, 27), fn("F", 0), fn("ABCDEFGHIJKLMNOP", 0),
	}
}

// random makes a formula of operations and calls, so deep.
func random(rnd *rand.Rand, deep int) []api.Node {
	list := leaves()
	if deep <= 0 || rnd.Intn(6) == 0 {
		return row(list[rnd.Intn(len(list))])
	}
	switch rnd.Intn(7) {
	case 0:
		return append(random(rnd, deep-1), op(api.OpNeg))
	case 1:
		return append(random(rnd, deep-1), op(api.OpPct))
	case 2:
		var nodes []api.Node
		args := rnd.Intn(5)
		for range args {
			if rnd.Intn(3) == 0 {
				nodes = append(nodes, rect(1, 2, 3, 4+rnd.Intn(250)))
				continue
			}
			nodes = append(nodes, random(rnd, deep-1)...)
		}
		return append(nodes, fn([]string{"F", "SUM", "A1B", "A_1", "Z9_"}[rnd.Intn(5)], args))
	}
	return append(append(random(rnd, deep-1), random(rnd, deep-1)...), op(3+rnd.Intn(11)))
}
