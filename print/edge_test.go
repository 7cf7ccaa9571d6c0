package print

import (
	"math"
	"slices"
	"strings"
	"testing"

	"oriel/api"
	"oriel/refs"
)

// P7.1: 1024 nodes have a text, 1025 have none.
func TestManyNodes(t *testing.T) {
	a := cell(1, 1)
	prints(t, "="+strings.Repeat("-", 1023)+"A1", join(row(a), times(1023, op(api.OpNeg)))...)
	prints(t, "=A1"+strings.Repeat("%", 1023), join(row(a), times(1023, op(api.OpPct)))...)
	prints(t, "=-A1"+strings.Repeat("%", 1022), join(row(a), times(1022, op(api.OpPct)), row(op(api.OpNeg)))...)
	prints(t, "=("+strings.Repeat("-", 511)+"A1)"+strings.Repeat("%", 512), join(row(a), times(511, op(api.OpNeg)), times(512, op(api.OpPct)))...)
	refuses(t, "1025 nodes, OpNeg", join(row(a), times(1024, op(api.OpNeg)))...)
	refuses(t, "1025 nodes, OpPct", join(row(a), times(1024, op(api.OpPct)))...)
	for o := api.OpMul; o <= api.OpGe; o++ {
		sum := join(row(a), times(511, cell(4096, 256), op(o)))
		want := "A1" + strings.Repeat(signs[o]+"IV4096", 511)
		prints(t, "="+want, sum...)
		prints(t, "=F("+want+")", append(sum, fn("F", 1))...)
		prints(t, "=("+want+")%", append(slices.Clone(sum), op(api.OpPct))...)
		prints(t, "=-("+want+")", append(slices.Clone(sum), op(api.OpNeg))...)
		refuses(t, "1025 nodes, of two", append(slices.Clone(sum), a, op(o))...)
		refuses(t, "1025 nodes, of two and one", append(slices.Clone(sum), op(api.OpNeg), op(api.OpNeg))...)
	}
	refuses(t, "very many nodes", times(1<<16, a)...)
	refuses(t, "very many nodes that would be a formula", join(row(a), times(1<<16, op(api.OpNeg)))...)
}

// P7.1: 1024 nodes, 16 arguments each at several depths.
func TestWide(t *testing.T) {
	inner := append(times(16, text(`"`)), fn("ABCDEFGHIJKLMNOP", 16))
	innerText := "ABCDEFGHIJKLMNOP(" + strings.TrimSuffix(strings.Repeat(`"""",`, 16), ",") + ")"
	middle := append(times(16, inner...), fn("G_1234567890123_", 16))
	middleText := "G_1234567890123_(" + strings.TrimSuffix(strings.Repeat(innerText+",", 16), ",") + ")"
	outer := append(times(3, middle...), fn("F", 3))
	prints(t, "=F("+middleText+","+middleText+","+middleText+")", outer...)
	refuses(t, "17 arguments", append(times(17, cell(1, 1)), fn("F", 17))...)
	refuses(t, "17 arguments of 16", append(times(17, cell(1, 1)), fn("F", 16))...)
}

// P7.1: 32 brackets deep, of calls, of operations and of both, have a text; 33 have none.
func TestDeep(t *testing.T) {
	a, open, shut := cell(1, 1), strings.Repeat("(", 32), strings.Repeat(")", 32)
	prints(t, "="+strings.Repeat("F(", 32)+"A1"+shut, join(row(a), times(32, fn("F", 1)))...)
	refuses(t, "33 calls", join(row(a), times(33, fn("F", 1)))...)

	// A1-(A1-(..)): each is the second thing of one on its own level.
	second := join(times(34, a), times(33, op(api.OpSub)))
	prints(t, "="+strings.Repeat("A1-(", 32)+"A1-A1"+shut, second...)
	refuses(t, "33 second things", join(row(a), second, row(op(api.OpSub)))...)

	// ((A1+A1)*A1+A1)*A1: each sum is the first thing of a product.
	first := join(row(a), times(32, a, op(api.OpAdd), a, op(api.OpMul)))
	prints(t, "="+open+"A1"+strings.Repeat("+A1)*A1", 32), first...)
	refuses(t, "33 first things", join(first, row(a, op(api.OpAdd), a, op(api.OpMul)))...)

	negated := join(row(a, a, op(api.OpCat)), times(32, op(api.OpNeg), a, op(api.OpCat)))
	prints(t, "="+strings.Repeat("-(", 32)+"A1&A1"+strings.Repeat(")&A1", 32), negated...)
	refuses(t, "33 things of OpNeg", join(negated, row(op(api.OpNeg)))...)

	parted := join(row(a), times(32, op(api.OpNeg), op(api.OpPct)))
	prints(t, "="+strings.Repeat("(-", 32)+"A1"+strings.Repeat(")%", 32), parted...)
	prints(t, "=-"+strings.Repeat("(-", 32)+"A1"+strings.Repeat(")%", 32), append(parted, op(api.OpNeg))...)
	refuses(t, "33 things of OpPct", join(parted, row(op(api.OpNeg), op(api.OpPct)))...)

	both := join(row(a), times(16, fn("F", 1), op(api.OpNeg), op(api.OpPct)))
	prints(t, "="+strings.Repeat("(-F(", 16)+"A1"+strings.Repeat("))%", 16), both...)
	refuses(t, "32 brackets and a call", append(both, fn("F", 1))...)

	// Brackets in a quoted text are none, and those side by side do not count together.
	prints(t, "=F("+`"`+open+open+`"`+")", text(open+open), fn("F", 1))
	prints(t, "=F()"+strings.Repeat("+F()", 100), join(row(fn("F", 0)), times(100, fn("F", 0), op(api.OpAdd)))...)
}

// P7.1: the one text may have more than MaxText bytes, also where a short text was read.
func TestLong(t *testing.T) {
	for _, size := range []int{api.MaxText - 3, api.MaxText - 2, api.MaxText - 1, api.MaxText, api.MaxText + 1, 1 << 20} {
		s := strings.Repeat("x", size)
		prints(t, `="`+s+`"`, text(s))
		quotes := strings.Repeat(`"`, size)
		prints(t, `="`+quotes+quotes+`"`, text(quotes))
	}
	sum := join(row(cell(4096, 256)), times(511, cell(4096, 256), op(api.OpNe)))
	prints(t, "=IV4096"+strings.Repeat("<>IV4096", 511), sum...)
}

// P7.1: a long text under as many nodes as may be.
func TestLongUnderMany(t *testing.T) {
	s := strings.Repeat("x", 1<<24)
	prints(t, `="`+s+`"`+strings.Repeat("%", 1023), join(row(text(s)), times(1023, op(api.OpPct)))...)
	prints(t, "="+strings.Repeat("-", 1023)+`"`+s+`"`, join(row(text(s)), times(1023, op(api.OpNeg)))...)
	prints(t, `="`+s+`"`+strings.Repeat("&A1", 511), join(row(text(s)), times(511, cell(1, 1), op(api.OpCat)))...)
	prints(t, "="+strings.Repeat("F(", 32)+`"`+s+`"`+strings.Repeat(")", 32), join(row(text(s)), times(32, fn("F", 1)))...)
}

// wrongNodes are nodes that may not be, by what is wrong with them.
func wrongNodes() map[string]api.Node {
	list := map[string]api.Node{
		"no kind": {}, "kind 6": {Kind: 6}, "kind -1": {Kind: -1}, "a great kind": {Kind: math.MaxInt}, "the least kind": {Kind: math.MinInt},
		"Blank": {Kind: 1}, "tag 5": {Kind: 1, Value: api.Value{Tag: 5}}, "tag -1": {Kind: 1, Value: api.Value{Tag: -1}},
		"a number below 0": number(-1), "-1": number(-10000), "the least number": number(-math.MaxInt64), "no number": number(math.MinInt64),
		"a number with a text": {Kind: 1, Value: api.Value{Tag: api.Number, Str: "1"}}, "a text with a number": {Kind: 1, Value: api.Value{Tag: api.Text, Str: "1", Num: 1}},
		"a truth with a code": {Kind: 1, Value: api.Value{Tag: api.Bool, Code: 2}}, "a fault that is true": {Kind: 1, Value: api.Value{Tag: api.Fault, Code: 2, Is: true}},
		"CodeCycle": fault(api.CodeCycle), "CodeNone": fault(api.CodeNone), "code 9": fault(9), "code -1": fault(-1),
		"row 0": cell(0, 1), "column 0": cell(1, 0), "row 4097": cell(4097, 1), "column 257": cell(1, 257), "a row below 0": cell(-1, 1), "a great row": cell(math.MaxInt, 1),
		"operation 0": op(0), "operation 14": op(14), "operation -1": op(-1), "a great operation": op(math.MaxInt), "the least operation": op(math.MinInt),
		"arguments below 0": fn("F", -1), "17 arguments": fn("F", 17), "many arguments": fn("F", math.MaxInt), "the fewest arguments": fn("F", math.MinInt),
		"a rectangle with row 0": rect(0, 1, 1, 1), "a rectangle with column 257": rect(1, 1, 1, 257), "bottom above top": rect(2, 1, 1, 1), "right ahead of left": rect(1, 2, 1, 1),
		"a value with an operation": {Kind: 1, Value: api.Value{Tag: api.Bool}, Op: 1}, "a cell with a name": {Kind: 2, Cell: api.Cell{Row: 1, Col: 1}, Name: "F"},
		"a cell with arguments": {Kind: 2, Cell: api.Cell{Row: 1, Col: 1}, Args: 1}, "a rectangle with a cell": {Kind: 3, Rect: api.Rect{Top: 1, Left: 1, Bottom: 1, Right: 1}, Cell: api.Cell{Row: 1, Col: 1}},
		"an operation with arguments": {Kind: 4, Op: api.OpAdd, Args: 2}, "an operation with a name": {Kind: 4, Op: api.OpAdd, Name: "+"}, "a call with an operation": {Kind: 5, Name: "F", Op: api.OpNeg},
		"a call with a value": {Kind: 5, Name: "F", Value: api.Value{Tag: api.Text}},
	}
	for _, name := range []string{"", "f", "1", "_", "_A", "F ", " F", "F-", "Fa", "A.B", "Ä", "F(", "TRUE", "FALSE", "A1", "AB12", "ZZZZ99999", "A0", "ABCDEFGHIJKLMNOPQ", strings.Repeat("A", 1<<16), "\x00", "A\xff"} {
		list["the name "+short(name)] = fn(name, 0)
	}
	return list
}

// P7.1: what refs.Check refuses has no text: nodes that may not be, alone and within a formula that else may be.
func TestWrongNodes(t *testing.T) {
	a := cell(1, 1)
	for why, n := range wrongNodes() {
		refuses(t, why, n)
		for things := 1; things <= 3; things++ {
			refuses(t, why+", behind things", append(times(things, a), n)...)
		}
		refuses(t, why+", under OpNeg", n, op(api.OpNeg))
		refuses(t, why+", first", n, a, op(api.OpAdd))
		refuses(t, why+", second", a, n, op(api.OpAdd))
		refuses(t, why+", in a call", a, n, a, fn("F", 3))
		refuses(t, why+", deep within", join(row(a, n, op(api.OpAdd)), times(10, fn("F", 1), a, op(api.OpMul)))...)
	}
}

// P7.1: what refs.Check refuses has no text: nodes that may be, but do not make one formula.
func TestWrongRows(t *testing.T) {
	a, r := cell(1, 1), rect(1, 1, 3, 2)
	refuses(t, "no nodes")
	refuses(t, "no nodes, not nil", []api.Node{}...)
	refuses(t, "two things", a, a)
	refuses(t, "three things", a, a, op(api.OpAdd), a)
	refuses(t, "a rectangle", r)
	refuses(t, "a rectangle of one cell", rect(1, 1, 1, 1))
	refuses(t, "a call beside a rectangle", r, fn("F", 0))
	refuses(t, "a rectangle behind a call", fn("F", 0), r)
	refuses(t, "a call of too few", a, fn("F", 2))
	refuses(t, "a call of none", fn("F", 1))
	refuses(t, "a call of less", a, a, fn("F", 1))
	for o := api.OpNeg; o <= api.OpGe; o++ {
		refuses(t, "an operation alone", op(o))
		refuses(t, "an operation ahead", op(o), a, a)
		refuses(t, "an operation on rectangles", r, r, op(o))
		refuses(t, "an operation on a rectangle, in a call", r, op(o), fn("F", 1))
		if o > api.OpPct {
			refuses(t, "an operation on one", a, op(o))
			refuses(t, "an operation on a rectangle and a cell", r, a, op(o))
			refuses(t, "an operation on a cell and a rectangle", a, r, op(o))
			refuses(t, "an operation on two rectangles, in a call", r, r, op(o), fn("F", 1))
		} else {
			refuses(t, "an operation on a rectangle", r, op(o))
			refuses(t, "an operation on two", a, a, op(o))
		}
	}
	if got, code := Print(api.Formula{}); got != "" || code != api.ErrNode {
		t.Errorf("the zero formula: %q, %d", got, code)
	}
}

// P7.1: just the formulas that refs.Check takes have a text.
func TestJustThese(t *testing.T) {
	set := append(leaves(), rect(1, 1, 1, 1), fn("F", 1), fn("F", 2), op(api.OpNeg), op(api.OpSub))
	for _, n := range wrongNodes() {
		set = append(set, n)
	}
	all(set, 2, func(nodes []api.Node) {
		f := api.Formula{Nodes: nodes}
		got, code := Print(f)
		if code != refs.Check(f) || (got == "") != (code != api.OK) {
			t.Fatalf("Print(%+v) = %s, %d", nodes, short(got), code)
		}
	})
}
