package eval

import (
	"fmt"
	"math"
	"math/big"
	"slices"
	"strings"
	"testing"

	"oriel/api"
	"oriel/funcs"
	"oriel/parse"
	"oriel/print"
	"oriel/refs"
)

func parts(x int64) api.Value    { return api.Value{Tag: api.Number, Num: x} }
func wholes(n int64) api.Value   { return parts(n * 10000) }
func text(s string) api.Value    { return api.Value{Tag: api.Text, Str: s} }
func truth(is bool) api.Value    { return api.Value{Tag: api.Bool, Is: is} }
func fault(c api.Code) api.Value { return api.Value{Tag: api.Fault, Code: c} }

// wanted is the value that stands for a thing: whole numbers, others as floats of up to four places, texts, truths, codes, nil for Blank, and values as they are.
func wanted(x any) api.Value {
	switch x := x.(type) {
	case nil:
		return api.Value{}
	case int:
		return wholes(int64(x))
	case float64:
		return parts(int64(math.Round(x * 10000)))
	case string:
		return text(x)
	case bool:
		return truth(x)
	case api.Code:
		return fault(x)
	case api.Value:
		return x
	}
	panic(fmt.Sprintf("no value: %T", x))
}

// The nodes.
func val(x any) api.Node             { return api.Node{Kind: 1, Value: wanted(x)} }
func cell(row, col int) api.Node     { return api.Node{Kind: 2, Cell: api.Cell{Row: row, Col: col}} }
func op(n int) api.Node              { return api.Node{Kind: 4, Op: n} }
func fn(name string, n int) api.Node { return api.Node{Kind: 5, Name: name, Args: n} }

func rect(top, left, bottom, right int) api.Node {
	return api.Node{Kind: 3, Rect: api.Rect{Top: top, Left: left, Bottom: bottom, Right: right}}
}

func formula(nodes ...api.Node) api.Formula { return api.Formula{Nodes: nodes} }

func times(n int, nodes ...api.Node) []api.Node { return slices.Repeat(nodes, n) }

// every is a table that knows all names, and takes all arguments: so that calls are read that no table takes.
type every struct{}

func (every) Known(string) bool { return true }

func (every) Takes(string, []bool) bool { return true }

// read is the formula of a text.
func read(s string) api.Formula {
	f, code, at := parse.Parse(s, every{})
	if code != api.OK {
		panic(fmt.Sprintf("%s is no formula: %d, %d", s, code, at))
	}
	return f
}

// brief is a thing, written out for who reads a failure: quoted, as texts have any bytes.
func brief(x any) string { return fmt.Sprintf("%.600q", fmt.Sprintf("%+v", x)) }

// shown is a formula's text, cut; of one that has none its nodes.
func shown(nodes []api.Node) string {
	if s, code := print.Print(formula(nodes...)); code == api.OK {
		return fmt.Sprintf("%.600q", s)
	}
	return brief(nodes)
}

// diary keeps what a source and a host were asked, in one order.
type diary struct{ asked []string }

func (d *diary) cell(c api.Cell) {
	if d != nil {
		d.asked = append(d.asked, fmt.Sprintf("cell %d %d", c.Row, c.Col))
	}
}

func (d *diary) rect(r api.Rect) {
	if d != nil {
		d.asked = append(d.asked, fmt.Sprintf("rect %d %d %d %d", r.Top, r.Left, r.Bottom, r.Right))
	}
}

func (d *diary) ask(n int64) {
	if d != nil {
		d.asked = append(d.asked, fmt.Sprintf("ask %d", n))
	}
}

// grid is a source: what cells with contents have, and the diary, if there is one.
type grid struct {
	has  map[api.Cell]api.Value
	book *diary
}

func (g grid) Cell(c api.Cell) api.Value {
	g.book.cell(c)
	return g.has[c]
}

func (g grid) Rect(r api.Rect) []api.Entry {
	g.book.rect(r)
	var list []api.Entry
	for c, v := range g.has {
		if c.Row >= r.Top && c.Row <= r.Bottom && c.Col >= r.Left && c.Col <= r.Right {
			list = append(list, api.Entry{Cell: c, Value: v})
		}
	}
	slices.SortFunc(list, func(a, b api.Entry) int {
		return (a.Cell.Row-b.Cell.Row)*1000 + a.Cell.Col - b.Cell.Col
	})
	return list
}

// column is a source with these in A1, A2 and so on; what is a bare skip has no content.
func column(list ...any) grid {
	g := grid{has: map[api.Cell]api.Value{}}
	for i, x := range list {
		if x != (skip{}) {
			g.has[api.Cell{Row: i + 1, Col: 1}] = wanted(x)
		}
	}
	return g
}

// skip stands for a cell without content.
type skip struct{}

// sample is a source with something of each kind.
func sample() grid {
	g := column(2, "ab", skip{}, true, false, api.CodeDiv, -1.5, "", nil, "12")
	for i, x := range []any{1, 2, 3, api.CodeMiss, "x", 0.5} {
		g.has[api.Cell{Row: i + 1, Col: 2}] = wanted(x)
	}
	g.has[api.Cell{Row: 4096, Col: 256}] = wholes(77)
	return g
}

// host answers what its function does, and writes it into the diary, if there is one.
type host struct {
	answer func(n int64) api.Value
	book   *diary
}

func (h host) Ask(n int64) api.Value {
	h.book.ask(n)
	return h.answer(n)
}

// echo is a host that answers n with the Number n.
func echo() host { return host{answer: parts} }

// always is a host that has one answer.
func always(v api.Value) host { return host{answer: func(int64) api.Value { return v }} }

// check is a formula's text, and what it is to answer.
type check struct {
	text string
	want any
}

// checks holds what formulas answer over a source against what is written down; texts of at most so many bytes.
func checks(t *testing.T, most int, h api.Host, s Source, list []check) {
	t.Helper()
	e := New(funcs.New(), most, h)
	for _, c := range list {
		if v := e.Work(read(c.text), s); v != wanted(c.want) {
			t.Errorf("%.80q = %s; want %s", c.text, brief(v), brief(wanted(c.want)))
		}
	}
}

// works holds what one formula answers against what is written down.
func works(t *testing.T, want any, e *Eval, s Source, nodes ...api.Node) {
	t.Helper()
	if v := e.Work(formula(nodes...), s); v != wanted(want) {
		t.Errorf("%s = %s; want %s", shown(nodes), brief(v), brief(wanted(want)))
	}
}

// values are such as may be, of every kind.
func values() []api.Value {
	list := []api.Value{{}, truth(true), truth(false)}
	for _, x := range []int64{0, 1, -1, 49, 50, -50, 149, 150, -150, 4999, 5000, -5000, 10000, -10000, 15000, 20000, 30000, -70000, 1000000, 1 << 40, 3 << 31, math.MaxInt64, math.MaxInt64 - 1, -math.MaxInt64, math.MaxInt64/2 + 1} {
		list = append(list, parts(x))
	}
	for _, s := range []string{"", "x", "1", "0", "ab", "abc", "b", "TRUE", "#DIV!", "-1", "\x00\xff", "eight or more", strings.Repeat("long", 300)} {
		list = append(list, text(s))
	}
	for c := api.CodeCycle; c <= api.CodeArg; c++ {
		list = append(list, fault(c))
	}
	return list
}

// wrongValues are values that may not be.
func wrongValues() []api.Value {
	return []api.Value{
		parts(math.MinInt64), fault(0), fault(9), fault(-1), fault(math.MaxInt), fault(math.MinInt), {Tag: 5}, {Tag: -1}, {Tag: math.MaxInt, Num: 1}, {Tag: math.MinInt, Str: "x"},
		{Num: 1}, {Str: "x"}, {Is: true}, {Code: 1}, {Tag: api.Number, Num: 1, Str: "x"}, {Tag: api.Number, Is: true}, {Tag: api.Number, Code: 3}, {Tag: api.Text, Str: "x", Num: 1}, {Tag: api.Text, Is: true}, {Tag: api.Text, Code: 1},
		{Tag: api.Bool, Num: 1}, {Tag: api.Bool, Is: true, Str: "x"}, {Tag: api.Bool, Code: 1}, {Tag: api.Fault, Code: 3, Num: 1}, {Tag: api.Fault, Code: 1, Str: "x"}, {Tag: api.Fault, Code: 3, Is: true},
	}
}

// The model takes a formula apart from its last node on, and works each part out behind what it works on, from the left.

// model is who works formulas out: functions, a bound of texts, a host, a source.
type model struct {
	table *funcs.Table
	most  int
	host  api.Host
	from  Source
}

// tree is a node with what it works on.
type tree struct {
	node api.Node
	on   []tree
}

// apart is the last thing of a list of nodes, and what of it stands ahead.
func apart(nodes []api.Node) (tree, []api.Node) {
	last := len(nodes) - 1
	n, rest := nodes[last], nodes[:last]
	count := n.Args
	if n.Kind == 4 {
		count = 2
		if n.Op < 3 {
			count = 1
		}
	}
	t := tree{node: n, on: make([]tree, count)}
	for i := range count {
		t.on[count-1-i], rest = apart(rest)
	}
	return t, rest
}

// work is what a formula is to answer.
func (m model) work(f api.Formula) api.Value {
	if refs.Check(f) != api.OK {
		return fault(8)
	}
	t, _ := apart(f.Nodes)
	return m.of(t).Value
}

// of is what a part of a formula is.
func (m model) of(t tree) api.Arg {
	var on []api.Arg
	for _, part := range t.on {
		on = append(on, m.of(part))
	}
	n := t.node
	switch {
	case n.Kind == 1 && n.Value.Tag == api.Text && len(n.Value.Str) > m.most:
		return api.Arg{Value: fault(7)}
	case n.Kind == 1:
		return api.Arg{Value: n.Value}
	case n.Kind == 2:
		return api.Arg{Value: m.from.Cell(n.Cell)}
	case n.Kind == 3:
		return api.Arg{Many: true, Rect: n.Rect, Entries: m.from.Rect(n.Rect)}
	case n.Kind == 4:
		return api.Arg{Value: m.operation(n.Op, on)}
	case n.Name == "ASK":
		return api.Arg{Value: m.ask(on)}
	}
	return api.Arg{Value: m.table.Call(n.Name, on, m.most)}
}

// ask is what ASK answers.
func (m model) ask(on []api.Arg) api.Value {
	if len(on) != 1 || on[0].Many {
		return fault(8)
	}
	x, bad := modelNumber(on[0].Value)
	switch {
	case bad.Tag == api.Fault:
		return bad
	case m.host == nil:
		return fault(6)
	}
	v := m.host.Ask(x.Int64())
	switch {
	case !modelMay(v), v.Tag == api.Fault && v.Code == 1:
		return fault(8)
	case v.Tag == api.Text && len(v.Str) > m.most:
		return fault(7)
	}
	return v
}

// operation is what an operation answers.
func (m model) operation(n int, on []api.Arg) api.Value {
	if n >= 8 {
		return modelCompared(n, on[0].Value, on[1].Value)
	}
	if n == 7 {
		whole := ""
		for _, a := range on {
			if a.Value.Tag == api.Fault {
				return a.Value
			}
			whole += modelText(a.Value)
		}
		if len(whole) > m.most {
			return fault(7)
		}
		return text(whole)
	}
	var xs []*big.Int
	for _, a := range on {
		x, bad := modelNumber(a.Value)
		if bad.Tag == api.Fault {
			return bad
		}
		xs = append(xs, x)
	}
	scale := big.NewInt(10000)
	switch n {
	case 1:
		return modelRounded(new(big.Int).Neg(xs[0]), big.NewInt(1))
	case 2:
		return modelRounded(xs[0], big.NewInt(100))
	case 3:
		return modelRounded(new(big.Int).Mul(xs[0], xs[1]), scale)
	case 4:
		if xs[1].Sign() == 0 {
			return fault(3)
		}
		return modelRounded(new(big.Int).Mul(xs[0], scale), xs[1])
	case 5:
		return modelRounded(new(big.Int).Add(xs[0], xs[1]), big.NewInt(1))
	}
	return modelRounded(new(big.Int).Sub(xs[0], xs[1]), big.NewInt(1))
}

// modelRounded is a quotient, rounded away from nought where two are as near; CodeNum, if that may not be.
func modelRounded(a, b *big.Int) api.Value {
	negative := a.Sign()*b.Sign() < 0
	a, b = new(big.Int).Abs(a), new(big.Int).Abs(b)
	twice := new(big.Int).Add(new(big.Int).Lsh(a, 1), b)
	q := twice.Quo(twice, new(big.Int).Lsh(b, 1))
	if !q.IsInt64() {
		return fault(2)
	}
	if negative {
		return parts(-q.Int64())
	}
	return parts(q.Int64())
}

// modelNumber is a value as a number, or the Fault that comes of it.
func modelNumber(v api.Value) (*big.Int, api.Value) {
	switch {
	case v.Tag == api.Fault:
		return nil, v
	case v.Tag == api.Text:
		return nil, fault(4)
	case v.Is:
		return big.NewInt(10000), api.Value{}
	}
	return big.NewInt(v.Num), api.Value{}
}

// modelText is a value that is no Fault as a text.
func modelText(v api.Value) string {
	switch v.Tag {
	case api.Text:
		return v.Str
	case api.Bool:
		return strings.ToUpper(fmt.Sprint(v.Is))
	case api.Number:
		sign, x := "", v.Num
		if x < 0 {
			sign, x = "-", -x
		}
		return sign + strings.TrimSuffix(strings.TrimRight(fmt.Sprintf("%d.%04d", x/10000, x%10000), "0"), ".")
	}
	return ""
}

// modelCompared is what a comparison answers.
func modelCompared(n int, a, b api.Value) api.Value {
	switch {
	case a.Tag == api.Fault:
		return a
	case b.Tag == api.Fault:
		return b
	case a.Tag == api.Blank:
		a.Tag = b.Tag
	case b.Tag == api.Blank:
		b.Tag = a.Tag
	}
	less := a.Tag < b.Tag
	if a.Tag == b.Tag {
		less = a.Num < b.Num || a.Str < b.Str || !a.Is && b.Is
	}
	same := a == b
	return truth([]bool{same, !same, less, less || same, !less && !same, !less}[n-8])
}

// modelMay tells whether a value may be, by chapter 2's words.
func modelMay(v api.Value) bool {
	only := api.Value{Tag: v.Tag}
	switch v.Tag {
	case api.Blank:
	case api.Number:
		only.Num = max(v.Num, -math.MaxInt64)
	case api.Text:
		only.Str = v.Str
	case api.Bool:
		only.Is = v.Is
	case api.Fault:
		only.Code = min(max(v.Code, 1), 8)
	default:
		return false
	}
	return v == only
}

// models checks that a formula is worked out as the model does it, and that the source and the host are asked the same, in the same order.
func models(t *testing.T, table *funcs.Table, most int, h *host, g grid, f api.Formula) api.Value {
	t.Helper()
	g.book = &diary{}
	other := grid{has: g.has, book: &diary{}}
	e, m := New(table, most, nil), model{table: table, most: most, from: other}
	if h != nil {
		e, m.host = New(table, most, host{h.answer, g.book}), host{h.answer, other.book}
	}
	v, want := e.Work(f, g), m.work(f)
	if v != want {
		t.Fatalf("%s = %s; want %s", shown(f.Nodes), brief(v), brief(want))
	}
	if !slices.Equal(g.book.asked, other.book.asked) {
		t.Fatalf("%s asks %q; want %q", shown(f.Nodes), g.book.asked, other.book.asked)
	}
	return v
}
