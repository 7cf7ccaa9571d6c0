package content

import (
	"fmt"
	"math/big"
	"math/rand"
	"regexp"
	"slices"
	"strings"
	"testing"

	"oriel/api"
	"oriel/funcs"
	"oriel/parse"
	"oriel/refs"
)

func number(x int64) api.Value { return api.Value{Tag: api.Number, Num: x} }
func text(s string) api.Value  { return api.Value{Tag: api.Text, Str: s} }
func truth(is bool) api.Value  { return api.Value{Tag: api.Bool, Is: is} }

// The nodes.
func val(v api.Value) api.Node       { return api.Node{Kind: 1, Value: v} }
func cell(row, col int) api.Node     { return api.Node{Kind: 2, Cell: api.Cell{Row: row, Col: col}} }
func op(n int) api.Node              { return api.Node{Kind: 4, Op: n} }
func fn(name string, n int) api.Node { return api.Node{Kind: 5, Name: name, Args: n} }

func rect(top, left, bottom, right int) api.Node {
	return api.Node{Kind: 3, Rect: api.Rect{Top: top, Left: left, Bottom: bottom, Right: right}}
}

// The references.
func one(row, col int) api.Ref {
	return api.Ref{Rect: api.Rect{Top: row, Left: col, Bottom: row, Right: col}}
}

func many(top, left, bottom, right int) api.Ref {
	return api.Ref{Many: true, Rect: api.Rect{Top: top, Left: left, Bottom: bottom, Right: right}}
}

func times(n int, s string) string { return strings.Repeat(s, n) }

// brief is a thing, written out for who reads a failure: cut and quoted, as texts have any bytes.
func brief(x any) string { return fmt.Sprintf("%.300q", fmt.Sprintf("%+v", x)) }

// same tells whether two contents say the same, in all fields.
func same(a, b Content) bool {
	return a.Text == b.Text && a.Value == b.Value && a.Is == b.Is && slices.Equal(a.Formula.Nodes, b.Formula.Nodes) && slices.Equal(a.Refs, b.Refs)
}

// copied is a content that shares nothing with what it is made of.
func copied(c Content) Content {
	c.Text, c.Value.Str = strings.Clone(c.Text), strings.Clone(c.Value.Str)
	c.Refs, c.Formula.Nodes = slices.Clone(c.Refs), slices.Clone(c.Formula.Nodes)
	for i := range c.Formula.Nodes {
		n := &c.Formula.Nodes[i]
		n.Name, n.Value.Str = strings.Clone(n.Name), strings.Clone(n.Value.Str)
	}
	return c
}

// reads fails the test, unless a text, with any most that is no less than its length, has this content.
func reads(t *testing.T, s string, table *funcs.Table, want Content) {
	t.Helper()
	for _, most := range []int{len(s), len(s) + 1, api.MaxText + len(s), 1 << 62} {
		if c, code, at := Read(s, most, table); code != api.OK || at != 0 || !same(c, want) {
			t.Errorf("Read(%s, %d) = %s, %d, %d; want %s", brief(s), most, brief(c), code, at, brief(want))
		}
	}
}

// says fails the test, unless a text is a literal of this value.
func says(t *testing.T, s string, want api.Value) {
	t.Helper()
	reads(t, s, funcs.New(), Content{Text: s, Value: want})
}

// formulates fails the test, unless a text is a formula of these nodes and references.
func formulates(t *testing.T, s string, nodes []api.Node, list ...api.Ref) {
	t.Helper()
	reads(t, s, funcs.New(), Content{Text: s, Is: true, Formula: api.Formula{Nodes: nodes}, Refs: list})
}

// refuses fails the test, unless a text is refused by this error at this place, with nothing beside it.
func refuses(t *testing.T, s string, most int, table *funcs.Table, want api.Errno, place int) {
	t.Helper()
	if c, code, at := Read(s, most, table); code != want || at != place || !same(c, Content{}) {
		t.Errorf("Read(%s, %d) = %s, %d, %d; want %d, %d", brief(s), most, brief(c), code, at, want, place)
	}
}

// numeral is the form of a number's text.
var numeral = regexp.MustCompile(`\A-?(0|[1-9][0-9]{0,14})(\.[0-9]{1,4})?\z`)

// counted is which number a text is, by chapter 1's words, worked out in fractions.
func counted(s string) (int64, bool) {
	if !numeral.MatchString(s) {
		return 0, false
	}
	x, _ := new(big.Rat).SetString(s)
	x.Mul(x, big.NewRat(10000, 1))
	if !x.IsInt() || !x.Num().IsInt64() || x.Num().Int64() == -1<<63 || s[0] == '-' && x.Sign() == 0 {
		return 0, false
	}
	return x.Num().Int64(), true
}

// valued is a literal's value, by the chapter's list.
func valued(s string) api.Value {
	if s == "" {
		return api.Value{}
	}
	if x, is := counted(s); is {
		return number(x)
	}
	if s == "TRUE" || s == "FALSE" {
		return truth(s == "TRUE")
	}
	if s[0] == '\'' {
		return text(s[1:])
	}
	return text(s)
}

// model is what Read answers, by the chapter's words.
func model(s string, most int, table *funcs.Table) (Content, api.Errno, int) {
	switch {
	case table == nil:
		return Content{}, api.ErrArg, 0
	case len(s) > most:
		return Content{}, api.ErrTooLong, 0
	case s == "" || s[0] != '=':
		return Content{Text: s, Value: valued(s)}, api.OK, 0
	}
	f, code, at := parse.Parse(s, table)
	if code != api.OK {
		return Content{}, code, at
	}
	return Content{Text: s, Is: true, Formula: f, Refs: refs.Of(f)}, api.OK, 0
}

// numbers are texts of numbers, of each form.
func numbers() []string {
	return []string{
		"0", "1", "9", "10", "12.5", "-3", "-1.50", "0.5", "-0.5", "0.0", "0.0000", "0.0001", "-0.0001", "1.0", "1.2", "1.23", "1.234", "1.2345", "-1.2345", "100.0100", "5.0000", "123456789012345", "-123456789012345", "123456789012345.6789",
		"922337203685477", "922337203685477.5", "922337203685477.5806", "922337203685477.5807", "-922337203685477.5807", "-922337203685477.5806",
	}
}

// nearNumbers are texts that are nearly those of numbers.
func nearNumbers() []string {
	list := []string{
		"007", "01", "00", "-01", "00.5", "-0", "-0.0", "-0.0000", "1.", "-1.", ".5", "-.5", ".", "-", "--1", "-", "- 1", "+1", "1.00000", "0.00001", "1.2.3", "1,5", "1e3", "1E3", "0x10", "1_000", "1'000", "1-", "1-2", "1+1", "12%", "1a", "a1", "-a", "-TRUE", "1TRUE", "NaN", "Inf", "-Inf", "#1",
		"1234567890123456", "-1234567890123456", "1000000000000000", "0000000000000001", "922337203685477.5808", "-922337203685477.5808", "-922337203685477.5809", "922337203685478", "-922337203685478", "999999999999999", "-999999999999999.9999", "9223372036854775807", "-9223372036854775808", "18446744073709551617", times(40, "9"),
		"１", "٣", "1\u00a0", "−1", "1\x00", "\x001", "1\xff", "\xff1", "1\n", "\n1", "1\t", "\t1",
	}
	for _, s := range numbers() {
		list = append(list, s+" ", " "+s, " "+s+" ", s+"\x00", "0"+s, s+".", s+"%", "+"+s, s+s+s+s+s+s+s+s+s+s+s+s+s+s+s+s)
	}
	return list
}

// nearTruths are texts that are nearly truths.
func nearTruths() []string {
	return []string{
		"T", "F", "TRU", "FALS", "TRUE ", " TRUE", "FALSE ", " FALSE", "TRUER", "FALSEH", "ATRUE", "true", "false", "True", "False", "tRUE", "TRUe", "TRUE()", "TRUE\x00", "\x00TRUE", "TRUE1", "1TRUE", "TRUEFALSE", "FALSETRUE", "TRUE,FALSE", "T RUE", "FALSE\n", "\"TRUE\"", "TRUTH", "FAlSE", "YES", "NO", "TＲUE", "TRUE\xff",
	}
}

// others are texts that are nothing else.
func others() []string {
	return []string{
		" ", "  ", "a", "x", "hello", "A1", "A1:B2", "SUM(A1)", "1+1", "#DIV!", "#CYCLE!", "\"a\"", "\"", "a'", "a=1", " =1", " =", "\t=1", "\n=1", "\x00=1", "\xff=1", " '", " 'a", "a'b", "\t'", "`a`", "’a", "(1)", "-A1", "-=1", "\x00", "\xff", "\x00\xff\x80", "\xff\xfe", "é", "日本", "\xed\xa0\x80", "\r\n", ";", "%", "&", "<>", "?", "TRUE=1", "1=1", "-1=", "T=1", "F'", "T'", "1'", "-'",
	}
}

// behind are texts that may stand behind a `'`: all of any kind.
func behind() []string {
	list := []string{"", "'", "''", "'''a", "=1", "=", "=1+", "=SUM(", "TRUE", "FALSE", " ", "12", "-3"}
	return slices.Concat(list, numbers(), nearNumbers(), nearTruths(), others())
}

// formulas are texts that are read as formulas.
func formulas() []string {
	list := []string{
		"=1", "=0.5", "=-1", `=""`, `="a""b"`, "=TRUE", "=#DIV!", "=A1", "=IV4096", "=A1+A1", "=A1+B2*A1", "=SUM(A1:B2)", "=A1+SUM(A1:B2)", "=SUM(A1:B2,A1:B2)", "=SUM(B2:B2)+B2+B2", "=SUM(A1:IV4096)", "=IF(A1,B1,SUM(C1:C9))", "=IF(A1,A1,A1)",
		"=ABS(-1)", "=LEN(A1)", "=COUNTIF(A1:A9,1)", "=ASK(1)", `=CONCAT("a",A1,"'b")`, "= 1", "=  A1  +  B1 ", "=((((1))))", "=1%", "=--1", "=(1=2)&3", "=1<=2<>3>=4", "=ROWS(C3:D9)*COLS(A1:A1)", "=IFERR(1/0,#DIV!)", "=XOR(TRUE,FALSE,A1)", "=\"TRUE\"", "=\"'\"", `="` + times(200, "x") + `"`,
		"=" + times(32, "(") + "1" + times(32, ")"), "=" + times(32, "ABS(") + "A1" + times(32, ")"), "=" + times(400, "A1+") + "B1", "=1" + times(1023, "%"), "=\"\x00\xff\"",
	}
	for i := range 200 {
		list = append(list, fmt.Sprintf("=A%d+SUM(A%d:B%d)*A%d&B%d", 1+i%7, 1+i%3, 5+i%4, 1+i%5, 1+i))
	}
	return list
}

// wrong is a text that is no formula, with its error and the place of that.
type wrong struct {
	s    string
	code api.Errno
	at   int
}

// wrongs are texts of each thing that may be wrong with a formula.
func wrongs() []wrong {
	return []wrong{
		{"=", api.ErrSyntax, 1}, {"= ", api.ErrSyntax, 2}, {"=1+", api.ErrSyntax, 3}, {"=1 2", api.ErrSyntax, 3}, {"=)", api.ErrSyntax, 1}, {"=(", api.ErrSyntax, 2}, {"=(1", api.ErrSyntax, 3}, {"=1)", api.ErrSyntax, 2}, {"==1", api.ErrSyntax, 1}, {"='a", api.ErrSyntax, 1}, {"='", api.ErrSyntax, 1}, {"=\x00", api.ErrSyntax, 1}, {"=\xff", api.ErrSyntax, 1}, {"=1\xff", api.ErrSyntax, 2}, {"=1\n", api.ErrSyntax, 2}, {"=\t1", api.ErrSyntax, 1},
		{"=A1:B2", api.ErrSyntax, 1}, {"=SUM(A1:B2+1)", api.ErrSyntax, 10}, {"=ABS(A1:B2)", api.ErrSyntax, 1}, {"=1+ABS(A1:B2)", api.ErrSyntax, 3}, {"=NONE(1)", api.ErrSyntax, 1}, {"=SUM()", api.ErrSyntax, 1}, {"=SUM", api.ErrSyntax, 4}, {"=TRUE()", api.ErrSyntax, 5}, {"=true", api.ErrSyntax, 1}, {"=ABS(1,2)", api.ErrSyntax, 1}, {"=1+IF(1)", api.ErrSyntax, 3}, {"=007", api.ErrSyntax, 1}, {"=1.", api.ErrSyntax, 1}, {`="a`, api.ErrSyntax, 1}, {"=A0", api.ErrSyntax, 1}, {"=SUM(B2:A1)", api.ErrSyntax, 5}, {"=#NO!", api.ErrSyntax, 1},
		{"=" + times(33, "(") + "1" + times(33, ")"), api.ErrTooDeep, 33}, {"=" + times(33, "("), api.ErrTooDeep, 33}, {"=" + times(33, "ABS("), api.ErrTooDeep, 132}, {"=1+" + times(40, "("), api.ErrTooDeep, 35}, {"=" + times(32, "("), api.ErrSyntax, 33}, {"=" + times(40, "(") + "\xff", api.ErrTooDeep, 33}, {"=\xff" + times(40, "("), api.ErrSyntax, 1},
		{"=1" + times(1024, "%"), api.ErrSyntax, 1025}, {"=SUM(" + times(16, "1,") + "1)", api.ErrSyntax, 36}, {"=" + times(17, "A") + "()", api.ErrSyntax, 1},
	}
}

// all are texts of all kinds.
func all() []string {
	list := slices.Concat([]string{"", "TRUE", "FALSE"}, numbers(), nearNumbers(), nearTruths(), others(), formulas())
	for _, s := range behind() {
		list = append(list, "'"+s)
	}
	for _, w := range wrongs() {
		list = append(list, w.s)
	}
	return list
}

// random is a text by chance: of bytes that matter, of pieces, or a text of some kind with one byte changed.
func random(rnd *rand.Rand, list []string) string {
	if rnd.Intn(2) == 0 {
		s := []byte(list[rnd.Intn(len(list))])
		if len(s) > 0 {
			s[rnd.Intn(len(s))] = "=' -0159.TRUEFALSE(A1\x00\xff"[rnd.Intn(23)]
		}
		return string(s)
	}
	var b strings.Builder
	pieces := []string{"=", "'", " ", "-", "0", "1", "9", ".", "TRUE", "FALSE", "T", "A1", "A1:B2", "SUM(", "ABS(", ")", ",", "+", "\x00", "\xff", "\"", "%"}
	for range rnd.Intn(7) {
		b.WriteString(pieces[rnd.Intn(len(pieces))])
	}
	return b.String()
}
