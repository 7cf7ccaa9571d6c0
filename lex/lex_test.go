package lex

import (
	"fmt"
	"strings"
	"testing"

	"oriel/api"
	"oriel/dec"
	"oriel/value"
)

// The chapter's examples.
func TestExamples(t *testing.T) {
	check(t, "=A1+2.5", tokens(cell(1, 1, 1), sign(3, "+"), number(4, 25000), end(7)))
	check(t, "= SUM(A1:B3)", tokens(word(2, "SUM"), sign(5, "("), rect(6, 1, 1, 3, 2), sign(11, ")"), end(12)))
	check(t, `="a""b"&TRUE`, tokens(text(1, `a"b`), sign(7, "&"), word(8, "TRUE"), end(12)))
	check(t, "=1<>2<=3", tokens(number(1, 10000), sign(2, "<>"), number(4, 20000), sign(5, "<="), number(7, 30000), end(8)))
	check(t, "=#DIV!", tokens(faultCode(1, 3), end(6)))
	check(t, "=A1B", tokens(word(1, "A1B"), end(4)))
	check(t, "=A_1", tokens(word(1, "A_1"), end(4)))
	check(t, "=A1 :B2", tokens(cell(1, 1, 1), wrongAt(4)))
	check(t, "=1A", tokens(number(1, 10000), word(2, "A"), end(3)))
	for _, s := range []string{"=#CYCLE!", "=#x", "=A0", "=ZZ9", "=a1", "=B2:A1", "=A1:", "=1.", "=01", `="a`} {
		check(t, s, tokens(wrongAt(1)))
	}
	check(t, "", tokens(wrongAt(0)))
	check(t, "1", tokens(wrongAt(0)))
	check(t, "=", tokens(end(1)))
}

// P4.1: the kinds have the numbers that the chapter tells.
func TestKinds(t *testing.T) {
	kinds := []int{api.TokEnd, api.TokNum, api.TokText, api.TokWord, api.TokCell, api.TokRect, api.TokCode, api.TokSign, api.TokWrong}
	for want, kind := range kinds {
		if kind != want {
			t.Errorf("kind %d is %d", want, kind)
		}
	}
	for i, s := range []string{"=", "=1", `="a"`, "=A", "=A1", "=A1:A1", "=#NUM!", "=%", "=!"} {
		if got := all(s)[0].Kind; got != i {
			t.Errorf("Lex(%q) begins with the kind %d; want %d", s, got, i)
		}
	}
}

// P4.1: a text that does not begin with `=` has one token alone, whatever stands there and behind it.
func TestNoFormula(t *testing.T) {
	for b := range 256 {
		for _, behind := range []string{"", "=", "=1", "1", " ", "\x00"} {
			if b != '=' {
				check(t, string([]byte{byte(b)})+behind, tokens(wrongAt(0)))
			}
		}
	}
	check(t, "", tokens(wrongAt(0)))
	check(t, " =1", tokens(wrongAt(0)))
}

// P4.1: blanks are passed over wherever a token begins, and at the end.
func TestBlanks(t *testing.T) {
	check(t, "= ", tokens(end(2)))
	check(t, "=   ", tokens(end(4)))
	check(t, "=  1", tokens(number(3, 10000), end(4)))
	check(t, "=1  ", tokens(number(1, 10000), end(4)))
	check(t, "= 1 + A1 ", tokens(number(2, 10000), sign(4, "+"), cell(6, 1, 1), end(9)))
	check(t, "=1 2", tokens(number(1, 10000), number(3, 20000), end(4)))
	check(t, "=1 .5", tokens(number(1, 10000), wrongAt(3)))
	check(t, "=A 1", tokens(word(1, "A"), number(3, 10000), end(4)))
	check(t, "=A1 B2", tokens(cell(1, 1, 1), cell(4, 2, 2), end(6)))
	check(t, "=A1: B2", tokens(wrongAt(1)))
	check(t, "=< >", tokens(sign(1, "<"), sign(3, ">"), end(4)))
	check(t, "=> =", tokens(sign(1, ">"), sign(3, "="), end(4)))
	check(t, `="a" "b"`, tokens(text(1, "a"), text(5, "b"), end(8)))
	check(t, `="  a "`, tokens(text(1, "  a "), end(7)))
	check(t, "=#DIV !", tokens(wrongAt(1)))
	check(t, "=# DIV!", tokens(wrongAt(1)))
	for _, other := range []string{"\t", "\n", "\r", "\v", "\f", "\x00", "\x85", "\u00a0", "\u2003", "\ufeff"} {
		check(t, "="+other+"1", tokens(wrongAt(1)))
		check(t, "= "+other+"1", tokens(wrongAt(2)))
		check(t, "=1"+other, tokens(number(1, 10000), wrongAt(2)))
	}
}

// lone is what a byte alone is as a token, by the table of first bytes.
func lone(b byte) api.Token {
	s := string([]byte{b})
	switch {
	case b >= '0' && b <= '9':
		return number(1, int64(b-'0')*10000)
	case b >= 'A' && b <= 'Z':
		return word(1, s)
	case strings.Contains("(),+-*/%&=<>", s):
		return sign(1, s)
	}
	return wrongAt(1)
}

// P4.1: each byte as the first one, alone, behind blanks, behind a token.
func TestFirstBytes(t *testing.T) {
	for b := range 256 {
		s := string([]byte{byte(b)})
		want := lone(byte(b))
		if b == ' ' {
			check(t, "= ", tokens(end(2)))
			continue
		}
		for ahead := range 3 {
			blanks := strings.Repeat(" ", ahead)
			want.At = 1 + ahead
			list := tokens(want)
			if want.Kind != api.TokWrong {
				list = append(list, end(2+ahead))
			}
			check(t, "="+blanks+s, list)
			want.At = 2 + ahead
			list[0] = want
			if len(list) == 2 {
				list[1].At = 3 + ahead
			}
			check(t, "=)"+blanks+s, append(tokens(sign(1, ")")), list...))
		}
	}
}

// P4.1: behind what is wrong nothing more is told, whatever stands there.
func TestNothingBehindWrong(t *testing.T) {
	for b := range 256 {
		if lone(byte(b)).Kind == api.TokWrong && b != ' ' && b != '"' && b != '#' {
			for _, behind := range []string{"1", " 1", "A1+2", `"`, "=", " "} {
				check(t, "="+string([]byte{byte(b)})+behind, tokens(wrongAt(1)))
				check(t, "=A1, "+string([]byte{byte(b)})+behind, tokens(cell(1, 1, 1), sign(3, ","), wrongAt(5)))
			}
		}
	}
	for _, s := range []string{"A0+1", "01+1", "1.+1", "#x!+1", "#CYCLE!+1", "B2:A1+1", "A1:+1", `"a+1`} {
		check(t, "="+s, tokens(wrongAt(1)))
		check(t, "=- "+s, tokens(sign(1, "-"), wrongAt(3)))
	}
}

// P4.1: digits and points that follow one another are one number, if dec reads them, else wrong.
func TestNumbers(t *testing.T) {
	for s, parts := range map[string]int64{
		"0": 0, "7": 70000, "10": 100000, "0.5": 5000, "0.0001": 1, "1.50": 15000, "1.0000": 10000, "0.0": 0,
		"922337203685477.5807": 1<<63 - 1, "922337203685477": 9223372036854770000,
	} {
		check(t, "="+s, tokens(number(1, parts), end(1+len(s))))
		check(t, "=-"+s+"%", tokens(sign(1, "-"), number(2, parts), sign(2+len(s), "%"), end(3+len(s))))
	}
	for _, s := range []string{"00", "01", "007", "1.", "1..", "1..5", "1.5.", "1.2.3", "0.00001", "1.00000", "922337203685477.5808", "922337203685478", "999999999999999", "1000000000000000", strings.Repeat("1", 100)} {
		check(t, "="+s, tokens(wrongAt(1)))
		check(t, "=1+"+s+"+1", tokens(number(1, 10000), sign(2, "+"), wrongAt(3)))
	}
	check(t, "=.5", tokens(wrongAt(1)))
	check(t, "=1 .", tokens(number(1, 10000), wrongAt(3)))
	check(t, "=1e5", tokens(number(1, 10000), wrongAt(2)))
	check(t, "=1E5", tokens(number(1, 10000), cell(2, 5, 5), end(4)))
	check(t, "=1_0", tokens(number(1, 10000), wrongAt(2)))
	check(t, "=1,5", tokens(number(1, 10000), sign(2, ","), number(3, 50000), end(4)))
	check(t, "=1A1:B2", tokens(number(1, 10000), rect(2, 1, 1, 2, 2), end(7)))
	check(t, "=1\"\"", tokens(number(1, 10000), text(2, ""), end(4)))
}

// P4.1: a number's token is what dec tells of all short texts of digits and points.
func TestNumbersAsDecReads(t *testing.T) {
	for _, s := range short("", "01.9", 7) {
		if s == "" || s[0] == '.' {
			continue
		}
		want := tokens(wrongAt(1))
		if parts, ok := dec.Parse(s); ok {
			want = tokens(number(1, parts), end(1+len(s)))
		}
		check(t, "="+s, want)
	}
}

// P4.1: a quoted text goes up to the next quote that is not doubled.
func TestQuoted(t *testing.T) {
	for s, inner := range map[string]string{
		`""`: "", `"a"`: "a", `""""`: `"`, `""""""`: `""`, `"a""b"`: `a"b`, `"""a"`: `"a`, `"a"""`: `a"`, `"a""""b"`: `a""b`, `" "" "`: ` " `,
		`"=A1+#DIV!"`: "=A1+#DIV!", "\"\x00\"": "\x00", "\"\xff\xfe\"": "\xff\xfe", "\"\n\r\t\"": "\n\r\t", `"é"`: "é", `"\"`: `\`, `"'"`: "'", `"#"`: "#", `"_a1"`: "_a1",
	} {
		check(t, "="+s, tokens(text(1, inner), end(1+len(s))))
		check(t, "= "+s+" &A1", tokens(text(2, inner), sign(3+len(s), "&"), cell(4+len(s), 1, 1), end(6+len(s))))
	}
	for _, s := range []string{`"`, `"a`, `"""`, `"a""`, `"""""`, `"a""b`, `"a""b""`, `" `, "\"\xff", `"a""+1`} {
		check(t, "="+s, tokens(wrongAt(1)))
		check(t, `="x"&`+s, tokens(text(1, "x"), sign(4, "&"), wrongAt(5)))
	}
	check(t, `="a"b`, tokens(text(1, "a"), wrongAt(4)))
	check(t, `="a"B`, tokens(text(1, "a"), word(4, "B"), end(5)))
	check(t, `="a"'b'`, tokens(text(1, "a"), wrongAt(4)))
	check(t, `="" ""`, tokens(text(1, ""), text(4, ""), end(6)))
	check(t, `="""" "`, tokens(text(1, `"`), wrongAt(6)))
}

// P4.1: each byte may stand between quotes.
func TestQuotedBytes(t *testing.T) {
	for b := range 256 {
		one := string([]byte{byte(b)})
		written := one
		if b == '"' {
			written = `""`
		}
		check(t, `="`+written+`"`, tokens(text(1, one), end(3+len(written))))
		check(t, `="x`+written+written+`y"-`, tokens(text(1, "x"+one+one+"y"), sign(5+2*len(written), "-"), end(6+2*len(written))))
	}
}

// P4.1: the codes' names, but that of a ring.
func TestCodes(t *testing.T) {
	for c := api.CodeNum; c <= api.CodeArg; c++ {
		s := value.Name(c)
		check(t, "="+s, tokens(faultCode(1, c), end(1+len(s))))
		check(t, "= "+s+s+"!", tokens(faultCode(2, c), faultCode(2+len(s), c), wrongAt(2+2*len(s))))
		for i := range s {
			check(t, "="+s[:i]+"x"+s[i:], tokens(wrongAt(1)))
			check(t, "="+s[:i]+"x"+s[i+1:], tokens(wrongAt(1)))
		}
		for i := 1; i < len(s); i++ {
			check(t, "="+s[:i], tokens(wrongAt(1)))
		}
		check(t, "="+strings.ToLower(s), tokens(wrongAt(1)))
	}
	for _, s := range []string{"#CYCLE!", "#", "#!", "##", "#DIV", "#DIV+1", "#div!", "#NONE!", "#REF!", "#N/A!", "##DIV!", "#DIV#DIV!", "# DIV!", "#DIV\x00!", "#1!", "#\xff!", "#\"!\""} {
		check(t, "="+s, tokens(wrongAt(1)))
		check(t, "=1="+s, tokens(number(1, 10000), sign(2, "="), wrongAt(3)))
	}
	check(t, "=#DIV!!", tokens(faultCode(1, api.CodeDiv), wrongAt(6)))
	check(t, "=#NUM!A1", tokens(faultCode(1, api.CodeNum), cell(6, 1, 1), end(8)))
	check(t, "=!", tokens(wrongAt(1)))
	check(t, "=#CYCLE!#DIV!", tokens(wrongAt(1)))
}

// P4.1: words that are not meant as cells.
func TestWords(t *testing.T) {
	for _, s := range []string{"A", "Z", "AB", "SUM", "TRUE", "FALSE", "A_", "A__", "A_1", "A1_", "A1B", "A1B2", "A0_", "IW1_", "A1_1", "AAA", "Q9Z", strings.Repeat("ABC", 100), "A" + strings.Repeat("1", 30) + "A"} {
		check(t, "="+s, tokens(word(1, s), end(1+len(s))))
		check(t, "="+s+"(", tokens(word(1, s), sign(1+len(s), "("), end(2+len(s))))
		check(t, "=1"+s+")", tokens(number(1, 10000), word(2, s), sign(2+len(s), ")"), end(3+len(s))))
		check(t, "="+s+":A1", tokens(word(1, s), wrongAt(1+len(s))))
		check(t, "="+s+" :", tokens(word(1, s), wrongAt(2+len(s))))
		for _, other := range []string{"a", "é", "\x80", "$", ".", "!", "\xff", "@", "[", "`"} {
			check(t, "="+s+other, tokens(word(1, s), wrongAt(1+len(s))))
		}
	}
	check(t, "=_A", tokens(wrongAt(1)))
	check(t, "=É", tokens(wrongAt(1)))
	check(t, "=Sum", tokens(word(1, "S"), wrongAt(2)))
}

// P4.1: words that are meant as cells are cells or wrong, never words.
func TestCells(t *testing.T) {
	for s, c := range map[string]api.Cell{
		"A1": {Row: 1, Col: 1}, "Z9": {Row: 9, Col: 26}, "AA12": {Row: 12, Col: 27}, "IV4096": {Row: 4096, Col: 256}, "A4096": {Row: 4096, Col: 1}, "IV1": {Row: 1, Col: 256}, "BA10": {Row: 10, Col: 53},
	} {
		check(t, "="+s, tokens(cellToken(1, c), end(1+len(s))))
		check(t, "="+s+s[:1], tokens(word(1, s+s[:1]), end(2+len(s))))
		check(t, "= "+s+"("+s, tokens(cellToken(2, c), sign(2+len(s), "("), cellToken(3+len(s), c), end(3+2*len(s))))
		check(t, "="+s+" :"+s, tokens(cellToken(1, c), wrongAt(2+len(s))))
		check(t, "="+s+"a", tokens(cellToken(1, c), wrongAt(1+len(s))))
		check(t, "="+s+".", tokens(cellToken(1, c), wrongAt(1+len(s))))
	}
	for _, s := range []string{"A0", "A00", "A01", "IW1", "ZZ9", "AAA1", "SUM1", "LOG10", "A4097", "A10000", "A99999999999999999999", strings.Repeat("A", 50) + "1", "A" + strings.Repeat("0", 50)} {
		check(t, "="+s, tokens(wrongAt(1)))
		check(t, "="+s+"(", tokens(wrongAt(1)))
		check(t, "=1*"+s+"*1", tokens(number(1, 10000), sign(2, "*"), wrongAt(3)))
		check(t, "="+s+"_", tokens(word(1, s+"_"), end(2+len(s))))
		check(t, "="+s+" :A1", tokens(wrongAt(1)))
	}
	check(t, "=1A1", tokens(number(1, 10000), cell(2, 1, 1), end(4)))
	check(t, "=$A$1", tokens(wrongAt(1)))
	check(t, "=A$1", tokens(word(1, "A"), wrongAt(2)))
}

// P4.1: with a `:` directly behind it a word that is meant as a cell is the beginning of a rectangle, or wrong.
func TestRects(t *testing.T) {
	for s, r := range map[string]api.Rect{
		"A1:B3": {Top: 1, Left: 1, Bottom: 3, Right: 2}, "B2:B2": {Top: 2, Left: 2, Bottom: 2, Right: 2}, "A1:IV4096": {Top: 1, Left: 1, Bottom: 4096, Right: 256},
		"Z9:AA10": {Top: 9, Left: 26, Bottom: 10, Right: 27}, "A1:A2": {Top: 1, Left: 1, Bottom: 2, Right: 1}, "A1:B1": {Top: 1, Left: 1, Bottom: 1, Right: 2},
	} {
		check(t, "="+s, tokens(rectToken(1, r), end(1+len(s))))
		check(t, "= "+s+" , "+s+")", tokens(rectToken(2, r), sign(3+len(s), ","), rectToken(5+len(s), r), sign(5+2*len(s), ")"), end(6+2*len(s))))
		check(t, "=9"+s+"a", tokens(number(1, 90000), rectToken(2, r), wrongAt(2+len(s))))
		check(t, "="+s+":", tokens(rectToken(1, r), wrongAt(1+len(s))))
		check(t, "="+s+":C3", tokens(rectToken(1, r), wrongAt(1+len(s))))
		check(t, "="+s+".", tokens(rectToken(1, r), wrongAt(1+len(s))))
		for _, more := range []string{"A", "_", "Z9", "_1"} {
			check(t, "="+s+more, tokens(wrongAt(1)))
		}
	}
	for _, s := range []string{
		"B2:A1", "A2:B1", "B1:A2", "A2:A1", "B1:A1", "IV4096:A1",
		"A1:", "A1:+", "A1: B2", "A1:b2", "A1::B2", "A1:\"a\"", "A1:é", "A1:\xff",
		"A1:B", "A1:2", "A1:_", "A1:B_2", "A1:B2C", "A1:SUM", "A1:B0", "A1:B02", "A1:IW1", "A1:A4097", "A1:2B",
		"A0:B2", "A01:B2", "IW1:IX2", "A4097:A4098", "SUM1:B2", "A0:", "A0:A0",
	} {
		check(t, "="+s, tokens(wrongAt(1)))
		check(t, "=SUM( "+s+")", tokens(word(1, "SUM"), sign(4, "("), wrongAt(6)))
	}
	check(t, "=A:B", tokens(word(1, "A"), wrongAt(2)))
	check(t, "=1:2", tokens(number(1, 10000), wrongAt(2)))
	check(t, "=:A1", tokens(wrongAt(1)))
	check(t, "=A1B:B2", tokens(word(1, "A1B"), wrongAt(4)))
	check(t, "=A_1:B2", tokens(word(1, "A_1"), wrongAt(4)))
}

// P4.1: signs, and which two of `<`, `>`, `=` are one.
func TestSigns(t *testing.T) {
	for _, s := range []string{"(", ")", ",", "+", "-", "*", "/", "%", "&", "="} {
		check(t, "="+s, tokens(sign(1, s), end(2)))
		for _, other := range []string{"(", ")", ",", "+", "-", "*", "/", "%", "&", "=", "<", ">"} {
			check(t, "="+s+other, tokens(sign(1, s), sign(2, other), end(3)))
		}
	}
	for _, s := range []string{"<", ">"} {
		check(t, "="+s, tokens(sign(1, s), end(2)))
		for _, other := range []string{"(", ")", ",", "+", "-", "*", "/", "%", "&"} {
			check(t, "="+s+other, tokens(sign(1, s), sign(2, other), end(3)))
		}
		check(t, "="+s+"!", tokens(sign(1, s), wrongAt(2)))
		check(t, "="+s+"1", tokens(sign(1, s), number(2, 10000), end(3)))
	}
	for _, s := range []string{"<>", "<=", ">="} {
		check(t, "="+s, tokens(sign(1, s), end(3)))
		check(t, "=1"+s+"1", tokens(number(1, 10000), sign(2, s), number(4, 10000), end(5)))
	}
	for _, s := range []string{"><", ">>", "<<", "==", "=<", "=>"} {
		check(t, "="+s, tokens(sign(1, s[:1]), sign(2, s[1:]), end(3)))
	}
	check(t, "=<>=", tokens(sign(1, "<>"), sign(3, "="), end(4)))
	check(t, "=<<>>=", tokens(sign(1, "<"), sign(2, "<>"), sign(4, ">="), end(6)))
	check(t, "=>==<", tokens(sign(1, ">="), sign(3, "="), sign(4, "<"), end(5)))
	check(t, "=:=", tokens(wrongAt(1)))
}

// P4.1: all short texts out of some bytes, as the model tells them.
func TestShortTexts(t *testing.T) {
	m := newModel()
	for _, c := range []struct {
		these string
		most  int
	}{
		{"<>= 1", 6}, {`"a `, 8}, {"A1:_0", 6}, {"AB12:", 6}, {"01.", 8}, {"#DIV! ", 6}, {"A1:\"#!<=. _a\xff", 4},
	} {
		for _, s := range short("=", c.these, c.most) {
			check(t, s, m.tokens(s))
		}
		for _, s := range short("", c.these+"=", 3) {
			check(t, s, m.tokens(s))
		}
	}
}

// P4.1: fragments joined, as the model tells them.
func TestJoinedTexts(t *testing.T) {
	m := newModel()
	for _, s := range texts() {
		check(t, s, m.tokens(s))
	}
}

// P4.1, R1: long texts end, with what their bytes say.
func TestLongTexts(t *testing.T) {
	const n = 1 << 20
	a, nines := strings.Repeat("A", n), strings.Repeat("9", n)
	check(t, "="+a, tokens(word(1, a), end(1+n)))
	check(t, "="+nines, tokens(wrongAt(1)))
	check(t, "="+a+"1", tokens(wrongAt(1)))
	check(t, "=A1:"+a, tokens(wrongAt(1)))
	check(t, "="+strings.Repeat(" ", n)+"1", tokens(number(1+n, 10000), end(2+n)))
	check(t, "="+strings.Repeat(`"`, n), tokens(text(1, strings.Repeat(`"`, n/2-1)), end(1+n)))
	check(t, "="+strings.Repeat(`"`, n+1), tokens(wrongAt(1)))
	check(t, "=#"+a, tokens(wrongAt(1)))
	for _, s := range []string{"(", "A1,", "1 ", `""&`, "#ARG!", "<>"} {
		text := "=" + strings.Repeat(s, n/len(s))
		list := all(text)
		if last := list[len(list)-1]; last != end(len(text)) {
			t.Errorf("%s many times ends with %s", s, show(tokens(last)))
		}
		if per := len(all("="+s)) - 1; len(list) != per*(n/len(s))+1 {
			t.Errorf("%s many times has %d tokens", s, len(list))
		}
	}
}

// R3: a token has, beside its Kind and At, just its Kind's field.
func TestOtherFields(t *testing.T) {
	for _, s := range texts() {
		for _, tok := range all(s) {
			if !isBare(tok) {
				t.Fatalf("Lex(%q) tells %s", s, show(tokens(tok)))
			}
		}
	}
}

// isBare tells whether nothing is left, where a token's own fields are taken away.
func isBare(tok api.Token) bool {
	switch tok.Kind {
	case api.TokNum:
		tok.Num = 0
	case api.TokText, api.TokWord, api.TokSign:
		tok.Str = ""
	case api.TokCell:
		tok.Cell = api.Cell{}
	case api.TokRect:
		tok.Rect = api.Rect{}
	case api.TokCode:
		tok.Code = 0
	}
	return tok == api.Token{Kind: tok.Kind, At: tok.At}
}

func ExampleLex() {
	for tok := range Lex("=A1+2.5") {
		fmt.Println(tok.Kind, tok.At)
	}
	// Output:
	// 4 1
	// 7 3
	// 1 4
	// 0 7
}
