package print

import (
	"fmt"
	"math"
	"math/rand"
	"slices"
	"strings"
	"testing"

	"oriel/api"
)

// The chapter's examples.
func TestExamples(t *testing.T) {
	a, one, two, three := cell(1, 1), number(10000), number(20000), number(30000)
	neg, pct, mul, add, sub := op(api.OpNeg), op(api.OpPct), op(api.OpMul), op(api.OpAdd), op(api.OpSub)
	prints(t, `=2.5`, number(25000))
	prints(t, `=0`, number(0))
	prints(t, `="a""b"`, text(`a"b`))
	prints(t, `=FALSE`, truth(false))
	prints(t, `=#DIV!`, fault(api.CodeDiv))
	prints(t, `=(A1+2)*2`, a, two, add, two, mul)
	prints(t, `=A1+2*2`, a, two, two, mul, add)
	prints(t, `=1-2-3`, one, two, sub, three, sub)
	prints(t, `=1-(2-3)`, one, two, three, sub, sub)
	prints(t, `=--1`, one, neg, neg)
	prints(t, `=(-1)%`, one, neg, pct)
	prints(t, `=-1%`, one, pct, neg)
	prints(t, `=-(1*2)`, one, two, mul, neg)
	prints(t, `=-1*2`, one, neg, two, mul)
	prints(t, `=1<2=3`, one, two, op(api.OpLt), three, op(api.OpEq))
	prints(t, `=1<(2=3)`, one, two, three, op(api.OpEq), op(api.OpLt))
	prints(t, `=MAX(SUM(A1:B3),1)`, rect(1, 1, 3, 2), fn("SUM", 1), one, fn("MAX", 2))
	refuses(t, "a rectangle alone", rect(1, 1, 3, 2))
}

// P7.1: each thing that is no operation, alone and under each operation and a call, where it stands without brackets.
func TestThings(t *testing.T) {
	for want, n := range map[string]api.Node{
		`0`: number(0), `1`: number(10000), `10`: number(100000), `1000000`: number(1e10), `0.0001`: number(1), `0.001`: number(10), `0.01`: number(100), `0.1`: number(1000),
		`0.5`: number(5000), `0.9999`: number(9999), `1.0001`: number(10001), `2.5`: number(25000), `12.34`: number(123400), `100.05`: number(1000500), `7.007`: number(70070),
		`922337203685477.5807`: number(math.MaxInt64), `922337203685477`: number(math.MaxInt64 - 5807),
		`""`: text(""), `" "`: text(" "), `"  a  b "`: text("  a  b "), `"a"`: text("a"), `"a""b"`: text(`a"b`), `""""`: text(`"`), `""""""`: text(`""`), `"""a"""`: text(`"a"`), `"a""""b"""`: text(`a""b"`),
		`"'"`: text("'"), `"\"`: text(`\`), `"1"`: text("1"), `"-1"`: text("-1"), `"TRUE"`: text("TRUE"), `"A1"`: text("A1"), `"=A1+2"`: text("=A1+2"), `"(("`: text("(("), `"#DIV!"`: text("#DIV!"), `"F(1,2)"`: text("F(1,2)"),
		"\"\x00\xff\xc3\x28\n\t\"": text("\x00\xff\xc3\x28\n\t"), `"ä€"`: text("ä€"),
		`TRUE`: truth(true), `FALSE`: truth(false),
		`#NUM!`: fault(2), `#DIV!`: fault(3), `#TYPE!`: fault(4), `#RANGE!`: fault(5), `#MISS!`: fault(6), `#LONG!`: fault(7), `#ARG!`: fault(8),
		`A1`: cell(1, 1), `Z1`: cell(1, 26), `AA1`: cell(1, 27), `AZ10`: cell(10, 52), `BA10`: cell(10, 53), `IV1`: cell(1, 256), `A4096`: cell(4096, 1), `IV4096`: cell(4096, 256),
		`F()`: fn("F", 0), `TRUEST()`: fn("TRUEST", 0), `TRUE_()`: fn("TRUE_", 0), `A1B()`: fn("A1B", 0), `A_1()`: fn("A_1", 0), `A_()`: fn("A_", 0), `ABCDEFGHIJKLMNOP()`: fn("ABCDEFGHIJKLMNOP", 0), `A12345678901234_()`: fn("A12345678901234_", 0),
	} {
		prints(t, "="+want, n)
		prints(t, "=-"+want, n, op(api.OpNeg))
		prints(t, "="+want+"%", n, op(api.OpPct))
		prints(t, "=-"+want+"%", n, op(api.OpPct), op(api.OpNeg))
		for o := api.OpMul; o <= api.OpGe; o++ {
			prints(t, "="+want+signs[o]+want, n, n, op(o))
		}
		prints(t, "=F("+want+")", n, fn("F", 1))
		prints(t, "=F("+want+",A1:B2,"+want+")", n, rect(1, 1, 2, 2), n, fn("F", 3))
	}
}

// P7.1: all columns and many rows of cells and rectangles.
func TestPlaces(t *testing.T) {
	for col := 1; col <= 256; col++ {
		for _, at := range []int{1, 9, 10, 99, 100, 999, 1000, 4095, 4096} {
			name := modelCell(at, col)
			prints(t, "="+name, cell(at, col))
			prints(t, "=F("+name+":"+name+")", rect(at, col, at, col), fn("F", 1))
			prints(t, "=F("+name+":IV4096)", rect(at, col, 4096, 256), fn("F", 1))
			prints(t, "=F(A1:"+name+")", rect(1, 1, at, col), fn("F", 1))
		}
	}
}

// P7.1: calls of no, one and several arguments, in order, of all kinds; around an argument no brackets stand.
func TestCalls(t *testing.T) {
	one, two, r := number(10000), number(20000), rect(2, 2, 4, 3)
	prints(t, "=F()", fn("F", 0))
	prints(t, "=F(1)", one, fn("F", 1))
	prints(t, "=F(1,2)", one, two, fn("F", 2))
	prints(t, "=F(2,1)", two, one, fn("F", 2))
	prints(t, "=F(B2:C4)", r, fn("F", 1))
	prints(t, "=F(B2:C4,1,B2:C4)", r, one, r, fn("F", 3))
	prints(t, "=F(G(),H(1),I(1,2))", fn("G", 0), one, fn("H", 1), one, two, fn("I", 2), fn("F", 3))
	prints(t, "=F(G(H(I(),1)),2)", fn("I", 0), one, fn("H", 2), fn("G", 1), two, fn("F", 2))
	prints(t, "=F(1)+G(2)*H()", one, fn("F", 1), two, fn("G", 1), fn("H", 0), op(api.OpMul), op(api.OpAdd))
	prints(t, "=(F(1)+G(2))*H()", one, fn("F", 1), two, fn("G", 1), op(api.OpAdd), fn("H", 0), op(api.OpMul))
	prints(t, "=-F(-1%)%", one, op(api.OpPct), op(api.OpNeg), fn("F", 1), op(api.OpPct), op(api.OpNeg))
	for o := api.OpMul; o <= api.OpGe; o++ {
		prints(t, "=F(1"+signs[o]+"2)", one, two, op(o), fn("F", 1))
		prints(t, "=F(1"+signs[o]+"2,B2:C4,2"+signs[o]+"1)", one, two, op(o), r, two, one, op(o), fn("F", 3))
		prints(t, "=1"+signs[o]+"F(1"+signs[o]+"2)", one, one, two, op(o), fn("F", 1), op(o))
	}
	for args := range 17 {
		var nodes []api.Node
		var list []string
		for i := range args {
			nodes = append(nodes, number(int64(i)*10000))
			list = append(list, fmt.Sprint(i))
		}
		prints(t, "=SUM("+strings.Join(list, ",")+")", append(nodes, fn("SUM", args))...)
	}
}

// bracketed is a part of a text, in brackets if they must stand around it.
func bracketed(part string, must bool) string {
	if must {
		return "(" + part + ")"
	}
	return part
}

// part is an operation that works on cells, as nodes and as text.
func part(o int) ([]api.Node, string) {
	switch o {
	case api.OpNeg:
		return row(cell(1, 1), op(o)), "-A1"
	case api.OpPct:
		return row(cell(1, 1), op(o)), "A1%"
	}
	return row(cell(1, 1), cell(1, 2), op(o)), "A1" + signs[o] + "B1"
}

// P7.1, 'Brackets': each operation with each operation as its first and as its second thing, around OpNeg and OpPct too.
func TestPairs(t *testing.T) {
	for outer := api.OpNeg; outer <= api.OpGe; outer++ {
		for inner := api.OpNeg; inner <= api.OpGe; inner++ {
			nodes, s := part(inner)
			looser := levels[inner] < levels[outer]
			same := levels[inner] == levels[outer]
			switch outer {
			case api.OpNeg:
				prints(t, "=-"+bracketed(s, inner != api.OpNeg && inner != api.OpPct), append(nodes, op(outer))...)
			case api.OpPct:
				prints(t, "="+bracketed(s, inner != api.OpPct)+"%", append(nodes, op(outer))...)
			default:
				prints(t, "="+bracketed(s, looser)+signs[outer]+"C1", join(nodes, row(cell(1, 3), op(outer)))...)
				prints(t, "=C1"+signs[outer]+bracketed(s, looser || same), join(row(cell(1, 3)), nodes, row(op(outer)))...)
				prints(t, "="+bracketed(s, looser)+signs[outer]+bracketed(s, looser || same), join(nodes, nodes, row(op(outer)))...)
			}
		}
	}
}

// P7.1, 'Brackets': texts that are written down, of several levels.
func TestRows(t *testing.T) {
	a, b, c, d := cell(1, 1), cell(1, 2), cell(1, 3), cell(1, 4)
	neg, pct, mul, div, add, sub := op(api.OpNeg), op(api.OpPct), op(api.OpMul), op(api.OpDiv), op(api.OpAdd), op(api.OpSub)
	cat, eq, ne, lt, ge := op(api.OpCat), op(api.OpEq), op(api.OpNe), op(api.OpLt), op(api.OpGe)
	prints(t, "=A1-B1+C1-D1", a, b, sub, c, add, d, sub)
	prints(t, "=A1-(B1+(C1-D1))", a, b, c, d, sub, add, sub)
	prints(t, "=A1+(B1+C1)+D1", a, b, c, add, add, d, add)
	prints(t, "=A1+B1+(C1+D1)", a, b, add, c, d, add, add)
	prints(t, "=A1/B1*C1/D1", a, b, div, c, mul, d, div)
	prints(t, "=A1*(B1*(C1*D1))", a, b, c, d, mul, mul, mul)
	prints(t, "=A1&B1&C1", a, b, cat, c, cat)
	prints(t, "=A1&(B1&C1)", a, b, c, cat, cat)
	prints(t, "=A1=B1<>C1>=D1", a, b, eq, c, ne, d, ge)
	prints(t, "=A1=(B1<>(C1>=D1))", a, b, c, d, ge, ne, eq)
	prints(t, "=A1<B1&C1+D1", a, b, c, d, add, cat, lt)
	prints(t, "=((A1<B1)&C1)+D1", a, b, lt, c, cat, d, add)
	prints(t, "=(A1+B1)*(C1-D1)", a, b, add, c, d, sub, mul)
	prints(t, "=(((A1<B1)&C1)+D1)*A1", a, b, lt, c, cat, d, add, a, mul)
	prints(t, "=A1*(B1+(C1&(D1<A1)))", a, b, c, d, a, lt, cat, add, mul)
	prints(t, "=-(A1+B1)%", a, b, add, pct, neg)
	prints(t, "=(-(A1+B1))%", a, b, add, neg, pct)
	prints(t, "=(-A1%)%", a, pct, neg, pct)
	prints(t, "=---A1%%%", a, pct, pct, pct, neg, neg, neg)
	prints(t, "=(---A1)%%%", a, neg, neg, neg, pct, pct, pct)
	prints(t, "=-(-(-A1)%)%", a, neg, pct, neg, pct, neg)
	prints(t, "=A1--B1", a, b, neg, sub)
	prints(t, "=A1---B1", a, b, neg, neg, sub)
	prints(t, "=-A1--B1", a, neg, b, neg, sub)
	prints(t, "=A1*-B1%", a, b, pct, neg, mul)
	prints(t, "=-A1*-B1/-C1", a, neg, b, neg, mul, c, neg, div)
	prints(t, "=-(A1*-B1)", a, b, neg, mul, neg)
	prints(t, "=A1=-B1", a, b, neg, eq)
	prints(t, "=A1<(-B1=C1)", a, b, neg, c, eq, lt)
}

// 'Brackets': three operations within one another, at all places, against the model.
func TestTriples(t *testing.T) {
	under := func(o int, nodes []api.Node) [][]api.Node {
		if o <= api.OpPct {
			return [][]api.Node{join(nodes, row(op(o)))}
		}
		return [][]api.Node{join(nodes, row(cell(2, 2), op(o))), join(row(cell(2, 2)), nodes, row(op(o)))}
	}
	for inner := 1; inner <= 13; inner++ {
		nodes, _ := part(inner)
		for middle := 1; middle <= 13; middle++ {
			for outer := 1; outer <= 13; outer++ {
				for _, one := range under(middle, nodes) {
					for _, two := range under(outer, one) {
						if bad := against(two); bad != "" {
							t.Fatal(bad)
						}
					}
				}
			}
		}
	}
}

// all hands over each row of up to so many of these nodes.
func all(set []api.Node, most int, each func(nodes []api.Node)) {
	var nodes []api.Node
	var grow func()
	grow = func() {
		each(nodes)
		if len(nodes) == most {
			return
		}
		for _, n := range set {
			nodes = append(nodes, n)
			grow()
			nodes = nodes[:len(nodes)-1]
		}
	}
	grow()
}

// sets are small sets of nodes, with how long the rows of them are.
func sets() map[string]struct {
	most int
	set  []api.Node
} {
	a := cell(1, 1)
	return map[string]struct {
		most int
		set  []api.Node
	}{
		"all operations": {4, append([]api.Node{a, number(10000)}, row(op(1), op(2), op(3), op(4), op(5), op(6), op(7), op(8), op(9), op(10), op(11), op(12), op(13))...)},
		"levels":         {7, row(a, op(api.OpNeg), op(api.OpPct), op(api.OpMul), op(api.OpSub))},
		"loose levels":   {7, row(a, op(api.OpNeg), op(api.OpAdd), op(api.OpCat), op(api.OpLt))},
		"of one":         {9, row(a, op(api.OpNeg), op(api.OpPct))},
		"of two":         {9, row(a, op(api.OpDiv), op(api.OpEq))},
		"calls":          {6, row(a, rect(1, 1, 1, 1), fn("F", 0), fn("F", 1), fn("F", 2), op(api.OpAdd))},
		"things":         {3, append(leaves(), op(api.OpNeg), op(api.OpCat), rect(1, 1, 1, 1), fn("F", 1), fn("F", 2), fn("G", 2))},
	}
}

// P7.1: all short rows of nodes, those that may be and those that may not, against refs.Check and the model.
func TestShortRows(t *testing.T) {
	for name, s := range sets() {
		may, mayNot := 0, 0
		all(s.set, s.most, func(nodes []api.Node) {
			if bad := against(nodes); bad != "" {
				t.Fatal(name, ": ", bad)
			}
			if _, code := Print(api.Formula{Nodes: nodes}); code == api.OK {
				may++
			} else {
				mayNot++
			}
		})
		if may < 30 || mayNot < 30 {
			t.Errorf("%s: %d may be, %d may not", name, may, mayNot)
		}
	}
}

// P7.1: random formulas, and such in which a node is changed, left out, doubled or swapped, against the model.
func TestRandom(t *testing.T) {
	rnd := rand.New(rand.NewSource(71))
	may, mayNot := 0, 0
	for range 4000 {
		nodes := random(rnd, rnd.Intn(9))
		at, from := rnd.Intn(len(nodes)), rnd.Intn(len(nodes))
		other := random(rnd, 1)
		swapped := slices.Clone(nodes)
		swapped[at], swapped[from] = swapped[from], swapped[at]
		changed := slices.Clone(nodes)
		changed[at] = other[len(other)-1]
		for _, one := range [][]api.Node{nodes, swapped, changed, join(nodes[:at], nodes[at+1:]), join(nodes[:at], nodes[from:]), join(nodes[:at], other, nodes[at:])} {
			if bad := against(one); bad != "" {
				t.Fatal(bad)
			}
			if _, code := Print(api.Formula{Nodes: one}); code == api.OK {
				may++
			} else {
				mayNot++
			}
		}
	}
	if may < 5000 || mayNot < 5000 {
		t.Errorf("%d may be, %d may not", may, mayNot)
	}
}
