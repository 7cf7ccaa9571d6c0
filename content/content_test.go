package content

import (
	"testing"

	"oriel/api"
	"oriel/funcs"
)

// The chapter's examples, with most 16.
func TestExamples(t *testing.T) {
	table := funcs.New()
	for s, want := range map[string]api.Value{
		"12.5": number(125000), "-3": number(-30000), "007": text("007"), "1 ": text("1 "), "TRUE": truth(true), "true": text("true"),
		"'12": text("12"), "'": text(""), "''a": text("'a"), " =1": text(" =1"), "": {},
	} {
		if c, code, at := Read(s, 16, table); code != api.OK || at != 0 || !same(c, Content{Text: s, Value: want}) {
			t.Errorf("Read(%q) = %s, %d, %d", s, brief(c), code, at)
		}
	}
	c, code, at := Read("=A1+SUM(A1:B2)", 16, table)
	want := Content{Text: "=A1+SUM(A1:B2)", Is: true, Formula: api.Formula{Nodes: []api.Node{cell(1, 1), rect(1, 1, 2, 2), fn("SUM", 1), op(api.OpAdd)}}, Refs: []api.Ref{one(1, 1), many(1, 1, 2, 2)}}
	if code != api.OK || at != 0 || !same(c, want) {
		t.Errorf("a formula: %s, %d, %d", brief(c), code, at)
	}
	refuses(t, "=1+", 16, table, api.ErrSyntax, 3)
	refuses(t, "=", 16, table, api.ErrSyntax, 1)
	refuses(t, "=NONE(1)", 16, table, api.ErrSyntax, 1)
	refuses(t, times(17, "x"), 16, table, api.ErrTooLong, 0)
	refuses(t, "=("+times(15, "1"), 16, table, api.ErrTooLong, 0)
	refuses(t, "", -1, table, api.ErrTooLong, 0)
	for _, s := range all() {
		refuses(t, s, 16, nil, api.ErrArg, 0)
	}
}

// P13.1: a text of a number, of each form, is that number.
func TestNumbers(t *testing.T) {
	for s, x := range map[string]int64{
		"0": 0, "1": 10000, "9": 90000, "10": 100000, "-3": -30000, "12.5": 125000, "-1.50": -15000, "0.5": 5000, "-0.5": -5000, "0.0": 0, "0.0000": 0, "0.0001": 1, "-0.0001": -1, "1.2345": 12345, "-1.2345": -12345, "100.0100": 1000100, "5.0000": 50000,
		"2": 20000, "3": 30000, "4": 40000, "5": 50000, "6": 60000, "7": 70000, "8": 80000, "-9": -90000, "-10": -100000, "123456789012345": 1234567890123450000, "123456789012345.6789": 1234567890123456789, "-123456789012345.6789": -1234567890123456789,
	} {
		says(t, s, number(x))
	}
	for _, s := range numbers() {
		x, is := counted(s)
		if !is {
			t.Fatalf("%q is no number's text", s)
		}
		says(t, s, number(x))
	}
}

// P13.1: a text that dec.Parse does not read is a Text, all of it.
func TestNearNumbers(t *testing.T) {
	for _, s := range nearNumbers() {
		says(t, s, text(s))
	}
}

// P13.1: the truths, and what is nearly one.
func TestTruths(t *testing.T) {
	says(t, "TRUE", truth(true))
	says(t, "FALSE", truth(false))
	for _, s := range nearTruths() {
		says(t, s, text(s))
	}
}

// P13.1: behind a `'` stands a Text, whatever it looks like.
func TestBehindQuote(t *testing.T) {
	for _, s := range behind() {
		says(t, "'"+s, text(s))
	}
	for _, s := range formulas() {
		says(t, "'"+s, text(s))
	}
	for _, w := range wrongs() {
		says(t, "'"+w.s, text(w.s))
	}
}

// P13.1: any other text is the Text of all of it.
func TestOthers(t *testing.T) {
	for _, s := range others() {
		says(t, s, text(s))
	}
}

// P13.1: the empty text says nothing.
func TestEmpty(t *testing.T) {
	says(t, "", api.Value{})
	reads(t, "", funcs.New(), Content{})
}

// P13.1: a formula's nodes, and its references, each once, in the order in which they stand first.
func TestFormulas(t *testing.T) {
	a1, b2, block := cell(1, 1), cell(2, 2), rect(1, 1, 2, 2)
	formulates(t, "=1", []api.Node{val(number(10000))})
	formulates(t, `="a""b"`, []api.Node{val(text(`a"b`))})
	formulates(t, "=FALSE", []api.Node{val(truth(false))})
	formulates(t, "=-#MISS!", []api.Node{val(api.Value{Tag: api.Fault, Code: api.CodeMiss}), op(api.OpNeg)})
	formulates(t, "=B2", []api.Node{b2}, one(2, 2))
	formulates(t, "=B2+A1", []api.Node{b2, a1, op(api.OpAdd)}, one(2, 2), one(1, 1))
	formulates(t, "=A1*A1", []api.Node{a1, a1, op(api.OpMul)}, one(1, 1))
	formulates(t, "=SUM(A1:B2)", []api.Node{block, fn("SUM", 1)}, many(1, 1, 2, 2))
	formulates(t, "=MAX(A1:B2,A1:B2,1)", []api.Node{block, block, val(number(10000)), fn("MAX", 3)}, many(1, 1, 2, 2))
	formulates(t, "=SUM(A1:B2)&A1&B2&A1", []api.Node{block, fn("SUM", 1), a1, op(api.OpCat), b2, op(api.OpCat), a1, op(api.OpCat)}, many(1, 1, 2, 2), one(1, 1), one(2, 2))
	formulates(t, "=B2-SUM(B2:B2)", []api.Node{b2, rect(2, 2, 2, 2), fn("SUM", 1), op(api.OpSub)}, one(2, 2), many(2, 2, 2, 2))
	formulates(t, "=IF(FALSE,A1,IV4096)", []api.Node{val(truth(false)), a1, cell(4096, 256), fn("IF", 3)}, one(1, 1), one(4096, 256))
	formulates(t, "=IF(A1,A1,A1)", []api.Node{a1, a1, a1, fn("IF", 3)}, one(1, 1))
}

// P13.1: functions of each layer are known, as the table knows them; what they do not take is wrong.
func TestFunctions(t *testing.T) {
	formulates(t, "=ABS(A1)", []api.Node{cell(1, 1), fn("ABS", 1)}, one(1, 1))
	formulates(t, `=LEFT("ab",1)`, []api.Node{val(text("ab")), val(number(10000)), fn("LEFT", 2)})
	formulates(t, "=ROWS(A1:A9)", []api.Node{rect(1, 1, 9, 1), fn("ROWS", 1)}, many(1, 1, 9, 1))
	formulates(t, "=ASK(2)", []api.Node{val(number(20000)), fn("ASK", 1)})
	formulates(t, "=NOT(ISERR(A1))", []api.Node{cell(1, 1), fn("ISERR", 1), fn("NOT", 1)}, one(1, 1))
	table := funcs.New()
	for _, name := range table.Names() {
		read := false
		for _, args := range []string{"1", "1,2", "1,2,3", "A1:B2", "A1:B2,1", "A1:B2,1,2", "A1:B2,1,A1:B2", "1,A1:B2", "\"a\",\"b\",\"c\"", "1,A1:B2,A1:B2"} {
			s := "=" + name + "(" + args + ")"
			want, code, at := model(s, len(s), table)
			if code != api.OK {
				refuses(t, s, len(s), table, code, at)
				continue
			}
			reads(t, s, table, want)
			read = true
		}
		if !read {
			t.Errorf("%s is never read", name)
		}
		refuses(t, "="+name+"X()", 64, table, api.ErrSyntax, 1)
	}
}

// P13.1: a formula is read as parse reads it, with refs.Of's references; blanks stay in the Text alone.
func TestFormulasAsRead(t *testing.T) {
	table := funcs.New()
	for _, s := range formulas() {
		want, code, _ := model(s, len(s), table)
		if code != api.OK {
			t.Fatalf("%q is no formula", s)
		}
		reads(t, s, table, want)
	}
	formulates(t, "=  A1  ", []api.Node{cell(1, 1)}, one(1, 1))
	formulates(t, "=((A1))", []api.Node{cell(1, 1)}, one(1, 1))
}

// P13.1: what is wrong with a formula is told by Parse's error and place, with nothing beside it.
func TestWrongFormulas(t *testing.T) {
	table := funcs.New()
	for _, w := range wrongs() {
		for _, most := range []int{len(w.s), len(w.s) + 1, api.MaxText * 8, 1 << 62} {
			refuses(t, w.s, most, table, w.code, w.at)
		}
	}
}
