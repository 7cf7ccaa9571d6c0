package eval

import (
	"math"
	"math/rand"
	"slices"
	"strings"
	"testing"

	"oriel/api"
	"oriel/funcs"
	"oriel/refs"
)

// P12.2: each operation with values of every kind in each place, held against the model.
func TestKinds(t *testing.T) {
	table := funcs.New()
	for _, a := range values() {
		for n := api.OpNeg; n <= api.OpPct; n++ {
			models(t, table, 8, nil, column(a), formula(cell(1, 1), op(n)))
		}
		for _, b := range values() {
			for n := api.OpMul; n <= api.OpGe; n++ {
				models(t, table, 8, nil, column(a, b), formula(cell(1, 1), cell(2, 1), op(n)))
				models(t, table, 8, nil, column(), formula(val(a), val(b), op(n)))
			}
		}
	}
}

// P12.2: all short rows of some nodes, whether they are formulas or not, held against the model.
func TestShortRows(t *testing.T) {
	table, e := funcs.New(), echo()
	over := []api.Node{val(3), val("ab"), cell(1, 1), cell(2, 1), rect(1, 1, 2, 1), op(api.OpNeg), op(api.OpSub), op(api.OpCat), op(api.OpLt), fn("ASK", 1), fn("SUM", 2), fn("NONE", 0)}
	right := 0
	var grow func(nodes []api.Node)
	grow = func(nodes []api.Node) {
		if refs.Check(formula(nodes...)) == api.OK {
			right++
		}
		models(t, table, 4, &e, column(2, api.CodeDiv), formula(nodes...))
		if len(nodes) == 4 {
			return
		}
		for _, n := range over {
			grow(append(nodes, n))
		}
	}
	grow(make([]api.Node, 0, 8))
	if right < 500 {
		t.Errorf("%d of them were formulas", right)
	}
}

// names are functions of all layers, one that is not known, and ASK, which stands there often.
var names = append(funcs.New().Names(), "NONE", "ASK", "ASK", "ASK", "IF", "IFERR", "SUM", "CHOOSE", "INDEX", "JOIN", "CONCAT")

// random is a formula's nodes, of so many operations and calls.
func random(rnd *rand.Rand, size int) []api.Node {
	if size == 0 {
		switch rnd.Intn(4) {
		case 0:
			set := []any{0, 1, 2, 3, 0.5, "", "a", "ab", "abcde", "1", true, false, api.CodeNum, api.CodeMiss, parts(math.MaxInt64)}
			return []api.Node{val(set[rnd.Intn(len(set))])}
		default:
			return []api.Node{cell(1+rnd.Intn(10), 1+rnd.Intn(2))}
		}
	}
	var nodes []api.Node
	left := size - 1
	if rnd.Intn(2) == 0 {
		n := 1 + rnd.Intn(13)
		if n >= 3 {
			first := rnd.Intn(left + 1)
			nodes, left = random(rnd, first), left-first
		}
		return append(append(nodes, random(rnd, left)...), op(n))
	}
	args := rnd.Intn(4)
	if rnd.Intn(20) == 0 {
		args = rnd.Intn(17)
	}
	for i := range args {
		switch {
		case i < args-1 && rnd.Intn(4) == 0:
			row, col := 1+rnd.Intn(9), 1+rnd.Intn(2)
			nodes = append(nodes, rect(row, col, row+rnd.Intn(3), 2))
		default:
			one := rnd.Intn(left + 1)
			nodes, left = append(nodes, random(rnd, one)...), left-one
		}
	}
	return append(nodes, fn(names[rnd.Intn(len(names))], args))
}

// mixed is a source by chance, with values of every kind.
func mixed(rnd *rand.Rand) grid {
	set := values()
	g := column()
	for row := range 11 {
		for col := range 2 {
			switch rnd.Intn(6) {
			case 0:
			case 1, 2:
				g.has[api.Cell{Row: row + 1, Col: col + 1}] = set[rnd.Intn(len(set))]
			default:
				g.has[api.Cell{Row: row + 1, Col: col + 1}] = wanted([]any{1, 2, 3, -1, 0.5, "ab", "a", true}[rnd.Intn(8)])
			}
		}
	}
	return g
}

// P12.2: formulas of all sizes by chance, over sources by chance, held against the model, with what source and host are asked.
func TestRandom(t *testing.T) {
	rnd, table := rand.New(rand.NewSource(121)), funcs.New()
	answers := append(values(), wrongValues()...)
	tags := map[api.Tag]int{}
	for range 20000 {
		h := &host{answer: func(n int64) api.Value { return answers[uint64(n)%uint64(len(answers))] }}
		if rnd.Intn(4) == 0 {
			h = nil
		}
		v := models(t, table, []int{1, 2, 5, 8, 1024}[rnd.Intn(5)], h, mixed(rnd), formula(random(rnd, rnd.Intn(8))...))
		tags[v.Tag]++
	}
	for tag := api.Blank; tag <= api.Fault; tag++ {
		if tags[tag] < 100 {
			t.Errorf("%d answers had the tag %d", tags[tag], tag)
		}
	}
}

// wrongFormulas are such as may not be, of each kind, with cells, rectangles and ASK in them where there is room.
func wrongFormulas() [][]api.Node {
	a, r, ask := cell(1, 1), rect(1, 1, 2, 2), fn("ASK", 1)
	return [][]api.Node{
		nil, {}, {r}, {a, a}, {a, a, a}, {a, op(api.OpAdd)}, {op(api.OpNeg)}, {op(api.OpAdd)}, {a, ask, op(api.OpMul)}, {ask}, {a, ask, a}, {a, ask, a, ask}, {a, fn("IF", 3)}, {a, a, fn("IF", 3)},
		{r, op(api.OpNeg)}, {r, op(api.OpPct)}, {r, a, op(api.OpAdd)}, {a, r, op(api.OpAdd)}, {r, r, op(api.OpEq)}, {r, a, op(api.OpCat)}, {a, r}, {r, a}, {r, fn("SUM", 1), r}, {a, ask, r},
		{a, ask, val(nil), op(api.OpAdd)}, {a, ask, val(-1), op(api.OpAdd)}, {a, ask, val(api.CodeCycle), op(api.OpAdd)}, {a, ask, val(fault(9)), op(api.OpAdd)}, {a, ask, val(fault(0)), op(api.OpAdd)}, {a, ask, val(parts(math.MinInt64)), op(api.OpAdd)},
		{a, ask, cell(0, 1), op(api.OpAdd)}, {a, ask, cell(1, 0), op(api.OpAdd)}, {a, ask, cell(4097, 1), op(api.OpAdd)}, {a, ask, cell(1, 257), op(api.OpAdd)}, {a, ask, cell(math.MinInt, math.MaxInt), op(api.OpAdd)},
		{a, ask, rect(0, 1, 1, 1), fn("SUM", 2)}, {a, ask, rect(2, 1, 1, 1), fn("SUM", 2)}, {a, ask, rect(1, 2, 1, 1), fn("SUM", 2)}, {a, ask, rect(1, 1, 4097, 1), fn("SUM", 2)}, {a, ask, rect(1, 1, 1, 257), fn("SUM", 2)},
		{a, a, op(0)}, {a, ask, a, op(14)}, {a, ask, a, op(-1)}, {a, ask, a, op(math.MaxInt)}, {a, ask, op(math.MinInt)},
		{a, ask, fn("", 1)}, {a, ask, fn("sum", 1)}, {a, ask, fn("AB12", 1)}, {a, ask, fn("TRUE", 1)}, {a, ask, fn("FALSE", 1)}, {a, ask, fn("ABCDEFGHIJKLMNOPQ", 1)}, {a, ask, fn("S M", 1)}, {a, ask, fn("_SUM", 1)}, {a, ask, fn("1", 1)},
		{a, ask, fn("SUM", -1)}, {a, ask, fn("SUM", math.MinInt)}, {a, ask, fn("SUM", math.MaxInt)}, append(times(17, a), fn("SUM", 17)),
		{a, ask, {}}, {a, ask, {Kind: 6}}, {a, ask, {Kind: -1}}, {a, ask, {Kind: math.MaxInt}}, {a, {Kind: 5, Name: "ASK", Args: 1, Op: 1}}, {a, ask, {Kind: 4, Op: 1, Args: 1}}, {a, {Kind: 1, Value: wholes(1), Cell: a.Cell}, op(api.OpAdd)}, {{Kind: 2, Cell: a.Cell, Value: wholes(1)}}, {{Kind: 3, Rect: r.Rect, Name: "A"}, fn("SUM", 1)},
		append([]api.Node{a}, times(1024, op(api.OpNeg))...), append(times(512, a, ask), times(511, op(api.OpAdd))...),
		append([]api.Node{a}, times(33, ask)...), append([]api.Node{a}, times(33, fn("ABS", 1))...), append(times(35, a), times(34, op(api.OpSub))...),
	}
}

// P12.2: of a formula that may not be it is CodeArg, and nobody is asked; nor without a source.
func TestRefused(t *testing.T) {
	book := &diary{}
	s := grid{has: sample().has, book: book}
	for _, h := range []api.Host{nil, host{answer: parts, book: book}} {
		e := New(funcs.New(), 8, h)
		for i, nodes := range wrongFormulas() {
			if refs.Check(formula(nodes...)) == api.OK {
				t.Errorf("the formula %d may be", i)
			}
			for _, from := range []Source{s, nil} {
				if v := e.Work(formula(nodes...), from); v != fault(api.CodeArg) {
					t.Errorf("%s = %s", brief(nodes), brief(v))
				}
			}
		}
		for _, text := range []string{"=1", `="a"`, "=#DIV!", "=A1", "=SUM(A1:B2)", "=ASK(1)", "=NONE()"} {
			if v := e.Work(read(text), nil); v != fault(api.CodeArg) {
				t.Errorf("%s without a source = %s", text, brief(v))
			}
		}
	}
	if len(book.asked) > 0 {
		t.Errorf("asked was: %q", book.asked)
	}
}

// P12.2: texts of just as many bytes as may be, and of one more: in a formula, joined, made by functions, told by the source, answered by the host.
func TestTextBound(t *testing.T) {
	for _, most := range []int{1, 2, 7, 8, 1023, 1024} {
		just, more := strings.Repeat("a", most), strings.Repeat("a", most+1)
		s := column(just, more, "a", strings.Repeat("b", 5000))
		e := New(funcs.New(), most, always(text(just)))
		for _, c := range []struct {
			want  any
			nodes []api.Node
		}{
			{just, []api.Node{val(just)}}, {api.CodeLong, []api.Node{val(more)}}, {api.CodeLong, []api.Node{val(strings.Repeat("b", 70000))}},
			{just, []api.Node{cell(1, 1)}}, {more, []api.Node{cell(2, 1)}}, {strings.Repeat("b", 5000), []api.Node{cell(4, 1)}},
			{just, []api.Node{val(just), val(""), op(api.OpCat)}}, {just, []api.Node{val(just[1:]), val("a"), op(api.OpCat)}}, {api.CodeLong, []api.Node{val(just), val("a"), op(api.OpCat)}}, {api.CodeLong, []api.Node{val("a"), val(just), op(api.OpCat)}}, {api.CodeLong, []api.Node{val(more), val(""), op(api.OpCat)}},
			{just, []api.Node{cell(1, 1), cell(9, 9), op(api.OpCat)}}, {api.CodeLong, []api.Node{cell(2, 1), cell(9, 9), op(api.OpCat)}}, {api.CodeLong, []api.Node{cell(9, 9), cell(4, 1), op(api.OpCat)}}, {api.CodeLong, []api.Node{cell(1, 1), cell(3, 1), op(api.OpCat)}}, {api.CodeLong, []api.Node{cell(4, 1), cell(4, 1), op(api.OpCat)}},
			{just, []api.Node{val(1), fn("ASK", 1)}}, {api.CodeLong, []api.Node{val(1), fn("ASK", 1), val("a"), op(api.OpCat)}},
			{just, []api.Node{cell(1, 1), fn("LOWER", 1)}}, {api.CodeLong, []api.Node{cell(2, 1), fn("LOWER", 1)}}, {api.CodeLong, []api.Node{val("a"), val(most + 1), fn("REPT", 2)}}, {just, []api.Node{val("a"), val(most), fn("REPT", 2)}}, {api.CodeLong, []api.Node{val(""), rect(1, 1, 3, 1), fn("JOIN", 2)}},
			// What is chosen is as it was told, and a long text may be looked at.
			{more, []api.Node{val(true), cell(2, 1), fn("IF", 2)}}, {more, []api.Node{rect(1, 1, 4, 1), val(2), val(1), fn("INDEX", 3)}}, {most + 1, []api.Node{cell(2, 1), fn("LEN", 1)}}, {true, []api.Node{cell(2, 1), cell(1, 1), op(api.OpGt)}}, {true, []api.Node{cell(2, 1), fn("ISTEXT", 1)}}, {api.CodeType, []api.Node{cell(2, 1), op(api.OpNeg)}},
			// But one that stands in a formula is none any more, wherever it stands.
			{true, []api.Node{val(more), fn("ISERR", 1)}}, {7, []api.Node{val(more), fn("ERRNO", 1)}}, {api.CodeLong, []api.Node{val(more), val(1), op(api.OpEq)}}, {api.CodeLong, []api.Node{val(more), fn("LEN", 1)}}, {1, []api.Node{val(true), val(1), val(more), fn("IF", 3)}}, {api.CodeLong, []api.Node{val(more), op(api.OpNeg)}},
		} {
			works(t, c.want, e, s, c.nodes...)
		}
		works(t, api.CodeLong, New(funcs.New(), most, always(text(more))), s, val(1), fn("ASK", 1))
		works(t, api.CodeLong, New(funcs.New(), most, always(text(strings.Repeat("b", 70000)))), s, val(1), fn("ASK", 1))
	}
}

// P12.2: of two that are wrong the first is the answer; what is not a number, a text or short enough comes behind.
func TestFirstWrong(t *testing.T) {
	e := New(funcs.New(), 4, nil)
	for n := api.OpMul; n <= api.OpGe; n++ {
		for a := api.CodeCycle; a <= api.CodeArg; a++ {
			for b := api.CodeCycle; b <= api.CodeArg; b++ {
				works(t, a, e, column(a, b), cell(1, 1), cell(2, 1), op(n))
			}
			for _, other := range []any{1, 0, "x", "", "longer", true, nil} {
				// A Text that stands ahead is wrong itself, where numbers are asked for.
				second := any(a)
				if _, is := other.(string); is && n <= api.OpSub {
					second = api.CodeType
				}
				works(t, a, e, column(a, other), cell(1, 1), cell(2, 1), op(n))
				works(t, second, e, column(other, a), cell(1, 1), cell(2, 1), op(n))
			}
		}
	}
	checks(t, 4, echo(), column("longer", api.CodeDiv, 1, "x"), []check{
		{"=A1&A2", api.CodeDiv}, {"=A2&A1", api.CodeDiv}, {"=A1&A1", api.CodeLong}, {`="abcde"&A2`, api.CodeLong}, {`=A2&"abcde"`, api.CodeDiv}, {`=A1&"abcde"`, api.CodeLong}, {"=A4/0", api.CodeType}, {"=0/A4", api.CodeType}, {"=A2/0", api.CodeDiv}, {"=A4*A2", api.CodeType}, {"=A2*A4", api.CodeDiv},
		{"=1/0=A4+1", api.CodeDiv}, {"=A4+1=1/0", api.CodeType}, {"=#NUM!&#MISS!", api.CodeNum}, {"=#MISS!<#NUM!", api.CodeMiss}, {"=A4>#NUM!", api.CodeNum}, {"=-(1/0)+#MISS!", api.CodeDiv}, {"=SUM(#MISS!,1/0)", api.CodeMiss}, {"=1/0&A1", api.CodeDiv},
	})
}

// P12.2, ASK: what the host is asked, and what it is not asked for.
func TestAsk(t *testing.T) {
	for _, c := range []struct {
		text  string
		want  any
		asked []string
	}{
		{"=ASK(1)", 1, []string{"ask 10000"}}, {"=ASK(0)", 0, []string{"ask 0"}}, {"=ASK(1.5)", 1.5, []string{"ask 15000"}}, {"=ASK(0.0001)", 0.0001, []string{"ask 1"}}, {"=ASK(-2)", -2, []string{"ask -20000"}}, {"=ASK(TRUE)", 1, []string{"ask 10000"}}, {"=ASK(FALSE)", 0, []string{"ask 0"}}, {"=ASK(C1)", 0, []string{"ask 0"}},
		{"=ASK(922337203685477.5807)", parts(math.MaxInt64), []string{"ask 9223372036854775807"}}, {"=ASK(-922337203685477.5807)", parts(-math.MaxInt64), []string{"ask -9223372036854775807"}},
		{`=ASK("1")`, api.CodeType, nil}, {`=ASK("")`, api.CodeType, nil}, {`=ASK("x")`, api.CodeType, nil}, {`=ASK(NUM("1.5"))`, 1.5, []string{"ask 15000"}}, {`=ASK(NUM("x"))`, api.CodeType, nil},
		{"=ASK(#DIV!)", api.CodeDiv, nil}, {"=ASK(1/0)", api.CodeDiv, nil}, {"=ASK(#ARG!)", api.CodeArg, nil}, {`=ASK("longer than eight")`, api.CodeLong, nil},
		{"=ASK()", api.CodeArg, nil}, {"=ASK(1,2)", api.CodeArg, nil}, {"=ASK(A1:A1)", api.CodeArg, nil}, {"=ASK(A1:B2)", api.CodeArg, nil}, {"=ASK(1,A1:B2)", api.CodeArg, nil}, {"=ASK(#DIV!,1)", api.CodeArg, nil}, {"=ASK(1,1,1,1,1,1,1,1,1,1,1,1,1,1,1,1)", api.CodeArg, nil},
		{"=ASK(ASK(2)+1)", 3, []string{"ask 20000", "ask 30000"}}, {"=ASK(1)+ASK(2)", 3, []string{"ask 10000", "ask 20000"}}, {"=ASK(1)+ASK(1)", 2, []string{"ask 10000", "ask 10000"}}, {"=SUM(ASK(3),ASK(2),ASK(1))", 6, []string{"ask 30000", "ask 20000", "ask 10000"}},
		{"=IF(TRUE,1,ASK(2))", 1, []string{"ask 20000"}}, {"=IF(FALSE,ASK(2))", false, []string{"ask 20000"}}, {"=IFERR(5,ASK(6))", 5, []string{"ask 60000"}}, {"=CHOOSE(1,ASK(7),ASK(8))", 7, []string{"ask 70000", "ask 80000"}}, {"=NONE(ASK(9))", api.CodeArg, []string{"ask 90000"}}, {"=ASK(ASK(1),ASK(2))", api.CodeArg, []string{"ask 10000", "ask 20000"}}, {"=ASK(1)/0", api.CodeDiv, []string{"ask 10000"}}, {"=#NUM!+ASK(4)", api.CodeNum, []string{"ask 40000"}}, {"=-ASK(4)%", -0.04, []string{"ask 40000"}},
	} {
		book := &diary{}
		if v := New(funcs.New(), 8, host{answer: parts, book: book}).Work(read(c.text), column()); v != wanted(c.want) || !slices.Equal(book.asked, c.asked) {
			t.Errorf("%s = %s, asked was %q; want %s, %q", c.text, brief(v), book.asked, brief(wanted(c.want)), c.asked)
		}
	}
}

// P12.2, ASK: what the host may answer, and what comes of what it may not.
func TestHostAnswers(t *testing.T) {
	table, s := funcs.New(), sample()
	for _, v := range values() {
		want := v
		switch {
		case v == fault(api.CodeCycle):
			want = fault(api.CodeArg)
		case v.Tag == api.Text && len(v.Str) > 8:
			want = fault(api.CodeLong)
		}
		works(t, want, New(table, 8, always(v)), s, val(1), fn("ASK", 1))
		works(t, truth(want.Tag == api.Fault), New(table, 8, always(v)), s, val(1), fn("ASK", 1), fn("ISERR", 1))
	}
	for _, v := range wrongValues() {
		works(t, api.CodeArg, New(table, 8, always(v)), s, val(1), fn("ASK", 1))
		works(t, 5, New(table, 8, always(v)), s, val(1), fn("ASK", 1), val(5), fn("IFERR", 2))
	}
	long := api.Value{Tag: api.Text, Str: strings.Repeat("x", 2000), Num: 1}
	works(t, api.CodeArg, New(table, 8, always(long)), s, val(1), fn("ASK", 1))
}

// P12.2, ASK without a host: CodeMiss, but only for what a host would be asked.
func TestNoHost(t *testing.T) {
	checks(t, 8, nil, sample(), []check{
		{"=ASK(1)", api.CodeMiss}, {"=ASK(A1)", api.CodeMiss}, {"=ASK(A3)", api.CodeMiss}, {"=ASK(TRUE)", api.CodeMiss}, {"=ASK(A2)", api.CodeType}, {`=ASK("1")`, api.CodeType}, {"=ASK(A6)", api.CodeDiv}, {"=ASK()", api.CodeArg}, {"=ASK(1,2)", api.CodeArg}, {"=ASK(A1:A1)", api.CodeArg},
		{"=IFERR(ASK(1),7)", 7}, {"=IF(TRUE,1,ASK(1))", 1}, {"=ASK(ASK(1))", api.CodeMiss}, {"=1+ASK(2)", api.CodeMiss}, {"=ERRNO(ASK(0))", 6},
	})
	var none api.Host
	works(t, api.CodeMiss, New(funcs.New(), 8, none), sample(), val(1), fn("ASK", 1))
}

// P12.2: source and host are asked in the order of the nodes, once a node, whatever becomes of what they tell.
func TestAsked(t *testing.T) {
	for _, c := range []struct {
		text  string
		asked []string
	}{
		{"=1", nil}, {"=A1", []string{"cell 1 1"}}, {"=A1+A1", []string{"cell 1 1", "cell 1 1"}}, {"=B2-A1", []string{"cell 2 2", "cell 1 1"}}, {"=SUM(A1:B2)", []string{"rect 1 1 2 2"}}, {"=SUM(A1:A1,A1)", []string{"rect 1 1 1 1", "cell 1 1"}}, {"=SUM(A1:B2)+SUM(A1:B2)", []string{"rect 1 1 2 2", "rect 1 1 2 2"}},
		{"=IF(A1,A2,A3)", []string{"cell 1 1", "cell 2 1", "cell 3 1"}}, {"=IF(FALSE,A2,SUM(A3:A4))", []string{"cell 2 1", "rect 3 1 4 1"}}, {"=IFERR(A1,A6)", []string{"cell 1 1", "cell 6 1"}}, {"=CHOOSE(1,A1,A2,A3)", []string{"cell 1 1", "cell 2 1", "cell 3 1"}}, {"=AND(FALSE,A1,A2)", []string{"cell 1 1", "cell 2 1"}},
		{"=A6+A1", []string{"cell 6 1", "cell 1 1"}}, {"=A6&A1&A2", []string{"cell 6 1", "cell 1 1", "cell 2 1"}}, {"=A6=A1", []string{"cell 6 1", "cell 1 1"}}, {"=1/0*A1", []string{"cell 1 1"}}, {"=NONE(A1,A2:A3)", []string{"cell 1 1", "rect 2 1 3 1"}}, {"=ABS(A1:A2,A3)", []string{"rect 1 1 2 1", "cell 3 1"}}, {"=ASK(A1,B1:B2)", []string{"cell 1 1", "rect 1 2 2 2"}},
		{"=A1+ASK(A2)*SUM(B1:B2,ASK(B1))", []string{"cell 1 1", "cell 2 1", "rect 1 2 2 2", "cell 1 2", "ask 10000"}}, {"=ASK(B3)+A1+ASK(B2)", []string{"cell 3 2", "ask 30000", "cell 1 1", "cell 2 2", "ask 20000"}}, {"=ROWS(A1:IV4096)", []string{"rect 1 1 4096 256"}}, {`="longer"&A1`, []string{"cell 1 1"}},
	} {
		book := &diary{}
		New(funcs.New(), 4, host{answer: parts, book: book}).Work(read(c.text), grid{has: sample().has, book: book})
		if !slices.Equal(book.asked, c.asked) {
			t.Errorf("%s asks %q; want %q", c.text, book.asked, c.asked)
		}
	}
}

// P12.2: formulas of as many nodes and as deep as may be, and one more.
func TestGreatest(t *testing.T) {
	e, s := New(funcs.New(), 1024, echo()), column(2, "a")
	a := cell(1, 1)
	negs := append([]api.Node{a}, times(1023, op(api.OpNeg))...)
	sums := append([]api.Node{a}, times(511, a, op(api.OpAdd))...)
	// The last two stand in no brackets: 34 of them are 32 deep.
	deep := append(times(34, a), times(33, op(api.OpSub))...)
	tower := append([]api.Node{val(1)}, times(31, val(1), fn("SUM", 2))...)
	wide := append(times(16, rect(1, 1, 2, 1), a)[:16], fn("SUM", 16))
	for i, c := range []struct {
		want  any
		nodes []api.Node
	}{
		{-2, negs}, {2, negs[:1023]}, {1024, sums}, {-1024, append(slices.Clone(sums), op(api.OpNeg))}, {api.CodeArg, append(slices.Clone(sums), op(api.OpNeg), op(api.OpNeg))}, {api.CodeArg, append(slices.Clone(negs), op(api.OpNeg))},
		{0, deep}, {2, deep[1:66]}, {api.CodeArg, append(times(35, a), times(34, op(api.OpSub))...)}, {32, tower}, {33, append(slices.Clone(tower), val(1), fn("SUM", 2))}, {api.CodeArg, append(slices.Clone(tower), val(1), fn("SUM", 2), val(1), fn("SUM", 2))}, {32, wide}, {api.CodeArg, append(times(17, a), fn("SUM", 17))},
		{strings.Repeat("a", 512), append([]api.Node{cell(2, 1)}, times(511, cell(2, 1), op(api.OpCat))...)}, {2, append([]api.Node{a}, times(32, fn("ASK", 1))...)}, {api.CodeArg, append([]api.Node{a}, times(33, fn("ASK", 1))...)},
	} {
		if v := e.Work(formula(c.nodes...), s); v != wanted(c.want) {
			t.Errorf("%d: of %d nodes: %s; want %s", i, len(c.nodes), brief(v), brief(wanted(c.want)))
		}
	}
	// Calls of 16 within one of 16, and operations behind it: 1024 nodes.
	var many []api.Node
	for range 15 {
		many = append(many, times(3, append(times(16, a), fn("SUM", 16))...)...)
		many = append(append(many, times(13, a)...), fn("SUM", 16))
	}
	many = append(append(many, a, fn("SUM", 16)), times(23, a, op(api.OpAdd))...)
	many = append(many, op(api.OpNeg))
	if v := e.Work(formula(many...), s); v != wholes(-15*(3*32+13*2)-2-46) || len(many) != 1024 {
		t.Errorf("of %d nodes: %s", len(many), brief(v))
	}
}
