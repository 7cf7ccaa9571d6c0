package parse

import (
	"fmt"
	"slices"
	"strings"
	"testing"

	"oriel/api"
)

func times(n int, s string) string { return strings.Repeat(s, n) }

// P6.1: 32 brackets may be open, 33 may not: of brackets, of calls, of both, with signs between.
func TestBrackets(t *testing.T) {
	for _, open := range []string{"(", "F(", "F(G(", "(F(", "F((", "-(", "1+(", "-F(", "F(1,", "F(A1:B2,", "2*(1-", "F( (", "- ("} {
		each := strings.Count(open, "(")
		for _, ahead := range []int{0, 1} {
			count := (api.MaxDepth - ahead) / each
			full := times(ahead, "(") + times(count, open)
			full += times(api.MaxDepth-strings.Count(full, "("), "(")
			if _, code, at := Parse("="+full+"1"+times(32, ")"), every{}); code != api.OK || at != 0 {
				t.Errorf("32 brackets as %q: %d, %d", open, code, at)
			}
			at := 1 + len(full)
			for _, behind := range []string{"1)", ")", "", "!", "(", "1" + times(33, ")"), " (1)", "A1:B2"} {
				refuses(t, "="+full+"("+behind, every{}, api.ErrTooDeep, at)
				refuses(t, "="+full+"  ("+behind, every{}, api.ErrTooDeep, at+2)
				refuses(t, "="+full+"-("+behind, every{}, api.ErrTooDeep, at+1)
				refuses(t, "="+full+"F("+behind, every{}, api.ErrTooDeep, at+1)
				refuses(t, "="+full+"1+SUM ("+behind, every{}, api.ErrTooDeep, at+6)
			}
		}
	}
}

// P6.1: brackets that are closed do not count, whichever they are; each closed one makes room for another.
func TestClosedBrackets(t *testing.T) {
	row := times(40, "(1)+F()*(F((2))-(3))+") + "4"
	if _, code, _ := Parse("="+row, every{}); code != api.OK {
		t.Errorf("brackets side by side: %d", code)
	}
	for _, closed := range []string{"(1)", "F()", "F(1)", "F(A1:B2)", "((1))", "F((1),G(2))"} {
		deep := strings.Count(closed, "((") + 1
		if closed == "F((1),G(2))" {
			deep = 2
		}
		full := times(32-deep, "(") + closed + "+" + closed + "*" + closed
		if _, code, _ := Parse("="+full+times(32-deep, ")"), every{}); code != api.OK {
			t.Errorf("%q within %d: %d", closed, 32-deep, code)
		}
		within := times(33-deep, "(")
		refuses(t, "="+within+closed, every{}, api.ErrTooDeep, 1+len(within)+strings.LastIndex(closed[:strings.Index(closed+")", ")")], "("))
	}
	refuses(t, "="+times(32, "(")+"1)+(2)+((", every{}, api.ErrTooDeep, 33+8)
}

// P6.1: a bracket that may not stand there at all is told so, however many are open.
func TestBracketMisplaced(t *testing.T) {
	for _, ahead := range []string{"1", "A1", "TRUE", "FALSE", `"x"`, "#DIV!", "1%", "F()", "(1)"} {
		for _, open := range []int{0, 1, 31, 32} {
			if open == 32 && strings.Contains(ahead, "(") {
				continue
			}
			text := "=" + times(open, "(") + ahead
			refuses(t, text+"(", every{}, api.ErrSyntax, len(text))
			refuses(t, text+" (1)", every{}, api.ErrSyntax, len(text)+1)
		}
	}
	refuses(t, "="+times(32, "F(")+"A1:B2(", every{}, api.ErrSyntax, 1+64+5)
}

// P6.1: names of 16 bytes may be, of 17 may not, whatever the table says and whatever stands behind.
func TestNameLengths(t *testing.T) {
	for _, letters := range []string{"ABCDEFGHIJKLMNOPQRS", "A_________________", "A1_1_1_1_1_1_1_1_1_1", "Z0000000000000Z0000", "TRUETRUETRUETRUETRUE"} {
		for _, count := range []int{15, 16} {
			name := letters[:count]
			reads(t, "="+name+"()", every{}, []api.Node{{Kind: api.NodeCall, Name: name}})
			reads(t, "=1+"+name+"(A1:B2)", every{}, append(nodesOf("1 A1:B2"), api.Node{Kind: api.NodeCall, Name: name, Args: 1}, nodeOf("+")))
			refuses(t, "="+name, every{}, api.ErrSyntax, 1+count)
		}
		for _, count := range []int{17, 18} {
			for _, behind := range []string{"()", "", "(", "(1)", "!", "1", ")", "(1+", " ()", times(33, "(")} {
				refuses(t, "="+letters[:count]+behind, every{}, api.ErrSyntax, 1)
				refuses(t, "=1+ "+letters[:count]+behind, every{}, api.ErrSyntax, 4)
			}
		}
	}
	refuses(t, "="+times(1<<20, "A")+"()", every{}, api.ErrSyntax, 1)
}

// P6.1: sixteen arguments may be, a `,` behind the sixteenth may not, whatever stands behind it and whatever the table says.
func TestArguments(t *testing.T) {
	for _, arg := range []string{"1", "A1:B2", "-1%", "(1)", "G(1,2)", "1+2", times(5, "F(1,") + "2" + times(5, ")")} {
		for _, count := range []int{2, 15, 16} {
			args := strings.Join(slices.Repeat([]string{arg}, count), ",")
			f, code, at := Parse("=1+F("+args+")", every{})
			if code != api.OK || at != 0 {
				t.Fatalf("%d arguments %s: %d, %d", count, arg, code, at)
			}
			if last := f.Nodes[len(f.Nodes)-2]; last != nodeOf(fmt.Sprint("F/", count)) {
				t.Errorf("%d arguments %s: %+v", count, arg, last)
			}
		}
		full := "=1+F(" + strings.Join(slices.Repeat([]string{arg}, 16), ",")
		for _, behind := range []string{"", "1)", ")", "!", "A1:B2)", ",", "1,1)"} {
			refuses(t, full+","+behind, every{}, api.ErrSyntax, len(full))
			refuses(t, full+" ,"+behind, every{}, api.ErrSyntax, len(full)+1)
		}
		refuses(t, full+"!", every{}, api.ErrSyntax, len(full))
		refuses(t, full, every{}, api.ErrSyntax, len(full))
	}
	// Each call counts its own.
	reads(t, "=F("+times(15, "1,")+"G("+times(15, "2,")+"3))", every{}, nodesOf(times(15, "1 ")+times(15, "2 ")+"3 G/16 F/16"))
	refuses(t, "=F("+times(15, "1,")+"G("+times(16, "2,")+"3))", every{}, api.ErrSyntax, 3+30+2+31)
	refuses(t, "=F("+times(15, "1,")+"G("+times(15, "2,")+"3),4)", every{}, api.ErrSyntax, 3+30+2+30+2)
	// The table's word counts at the `)` alone.
	none := table{"F": func([]bool) bool { return false }}
	refuses(t, "=-F("+times(15, "1,")+"1,", none, api.ErrSyntax, 4+31)
	refuses(t, "=-F("+times(15, "1,")+"1)", none, api.ErrSyntax, 2)
}

// fill is a thing of so many nodes.
func fill(nodes int) string { return "1" + times(nodes-1, "%") }

// P6.1: behind 1024 nodes the next one is told by its token, a value, a cell, a rectangle or a `%`, whatever stands behind that.
func TestNodesOfTokens(t *testing.T) {
	for _, c := range []struct{ ahead, behind, token string }{
		{"", "+", "1"}, {"", "+", "0.25"}, {"", "&", `"x"`}, {"", "& ", `""`}, {"", "=", "TRUE"}, {"", "=", "FALSE"}, {"", "-", "#DIV!"}, {"", "*", "A1"}, {"(", "/ ", "IV4096"},
		{"F(", ",", "A1:B2"}, {"F(", ", ", "A1:B2"}, {"-F((", "),", "A1:A1"}, {"F(", ",", "1"}, {"F(", ",G(", "1"},
		{"", "", "%"}, {"(", ")", "%"}, {"F(", "", "%"}, {"-", "", "%"},
	} {
		text := "=" + c.ahead + fill(1024) + c.behind
		for _, rest := range []string{"", "+1", ")", ",1)", "!", "(", "%"} {
			refuses(t, text+c.token+rest, every{}, api.ErrSyntax, len(text))
		}
	}
}

// P6.1: behind 1024 nodes a name is read, as it is no node yet: what its call is given is one, and its `)`.
func TestNodesOfNames(t *testing.T) {
	text := "=" + fill(1024) + "+"
	at := len(text)
	refuses(t, text+"SUM()", every{}, api.ErrSyntax, at)
	refuses(t, text+"SUM( )!", every{}, api.ErrSyntax, at)
	refuses(t, text+"SUM(1)", every{}, api.ErrSyntax, at+4)
	refuses(t, text+"SUM(A1:B2)", every{}, api.ErrSyntax, at+4)
	refuses(t, text+"SUM!", every{}, api.ErrSyntax, at+3)
	refuses(t, text+"SUM", every{}, api.ErrSyntax, at+3)
	refuses(t, text+"SUM(!", every{}, api.ErrSyntax, at+4)
	refuses(t, text+"SUM(-(", every{}, api.ErrSyntax, at+6)
	refuses(t, text+"SUM(G())", every{}, api.ErrSyntax, at+4)
}

// P6.1: just 1024 nodes, the last of them of each kind.
func TestNodesFull(t *testing.T) {
	for text, node := range map[string]string{
		"=" + fill(1024): "pct", "=-" + fill(1023): "neg", "=--" + fill(1022): "neg", "=F(" + fill(1023) + ")": "F/1", "=F(" + fill(1022) + ",A1:B2)": "F/2",
		"=(" + fill(1023) + ")%": "pct", "=-" + times(1022, "-") + "1": "neg", "=" + times(511, "1+") + "-1": "+", "=" + times(511, "A1*") + "F()%": "*",
		"=F(F(" + fill(1022) + "))": "F/1", "=" + fill(1021) + "+F()%": "+",
	} {
		f, code, at := Parse(text, every{})
		if code != api.OK || at != 0 || len(f.Nodes) != 1024 || f.Nodes[1023] != nodeOf(node) {
			t.Errorf("Parse(%s) = %d nodes, %d, %d", short(text), len(f.Nodes), code, at)
		}
	}
	for _, op := range opWords[3:] {
		text := "=" + fill(1022) + op + "A1"
		f, code, _ := Parse(text, every{})
		if code != api.OK || len(f.Nodes) != 1024 || f.Nodes[1023] != nodeOf(op) {
			t.Errorf("Parse(%s) = %d nodes, %d", short(text), len(f.Nodes), code)
		}
	}
}

// P6.1: an operation of two is made behind the second thing that it works on, and is told by its sign.
func TestNodesOfTwo(t *testing.T) {
	for _, op := range opWords[3:] {
		text := "=" + fill(1023) + " "
		at := len(text)
		for _, behind := range []string{"", " ", "=1", ")", "!", " 1", "A", "(", ",", "TRUE"} {
			refuses(t, text+op+" 1"+behind, every{}, api.ErrSyntax, at)
			refuses(t, "=("+fill(1023)+op+"1"+behind, every{}, api.ErrSyntax, at)
		}
		refuses(t, "=F("+fill(1023)+op+"1,1)", every{}, api.ErrSyntax, 3+1023)
		refuses(t, "=F("+fill(1023)+op+"1)", every{}, api.ErrSyntax, 3+1023)
		// What binds closer belongs to the second thing, so its own nodes stand ahead.
		refuses(t, text+op+"1%", every{}, api.ErrSyntax, at+len(op)+1)
		refuses(t, text+op+"-1", every{}, api.ErrSyntax, at+len(op))
		refuses(t, text+op+"(1+2)", every{}, api.ErrSyntax, at+len(op)+3)
		refuses(t, text+op+"!", every{}, api.ErrSyntax, at+len(op))
	}
	refuses(t, "="+fill(1023)+"+1*", every{}, api.ErrSyntax, 1024+3)
	refuses(t, "="+fill(1023)+"+1*!", every{}, api.ErrSyntax, 1024+3)
	refuses(t, "="+fill(1023)+"+1*2", every{}, api.ErrSyntax, 1024+3)
	refuses(t, "="+fill(1022)+"+1*2", every{}, api.ErrSyntax, 1023+2)
	refuses(t, "="+fill(1021)+"+1*2", every{}, api.ErrSyntax, 1022)
	refuses(t, "="+fill(1022)+"+1+2", every{}, api.ErrSyntax, 1023+3)
	refuses(t, "="+fill(1020)+"=1&2+3", every{}, api.ErrSyntax, 1021+2)
	refuses(t, "="+fill(1019)+"=1&2+3", every{}, api.ErrSyntax, 1020)
}

// P6.1: the nodes of several `-` are made behind what they work on, the last `-` first.
func TestNodesOfNeg(t *testing.T) {
	for _, signs := range []int{1, 2, 3, 500, 1023, 1024, 1025, 2047, 2048, 2049, 5000} {
		for _, nodes := range []int{1, 2, 3, 4, 500, 1000, 1022, 1023, 1024} {
			for _, blanks := range []string{"", "  "} {
				text := "=" + times(signs, "-"+blanks)
				rest := 1024 - nodes
				if signs <= rest {
					if f, code, at := Parse(text+fill(nodes), every{}); code != api.OK || at != 0 || len(f.Nodes) != nodes+signs {
						t.Errorf("%d signs, %d nodes: %d, %d, %d", signs, nodes, len(f.Nodes), code, at)
					}
					continue
				}
				at := 1 + (signs-rest-1)*(1+len(blanks))
				for _, behind := range []string{"", "+1", "!", ")", " 1", "("} {
					refuses(t, text+fill(nodes)+behind, every{}, api.ErrSyntax, at)
				}
				refuses(t, text+"("+fill(nodes)+")", every{}, api.ErrSyntax, at)
				refuses(t, "=("+text[1:]+fill(nodes)+")", every{}, api.ErrSyntax, at+1)
			}
		}
		// A thing that is wrong is told ahead of the signs.
		text := "=" + times(signs, "-")
		for _, wrong := range []string{"", "!", ")", "*", "A1:B2", "NONE()", ",", "%"} {
			refuses(t, text+wrong, wide(), api.ErrSyntax, 1+signs)
		}
		refuses(t, text+"(1", every{}, api.ErrSyntax, 1+signs+2)
		refuses(t, text+"F(1,", every{}, api.ErrSyntax, 1+signs+4)
		refuses(t, text+times(33, "(")+"1", every{}, api.ErrTooDeep, 1+signs+32)
	}
	refuses(t, "=-"+fill(1024)+"%", every{}, api.ErrSyntax, 2+1024)
	refuses(t, "=-(-"+fill(1024)+")", every{}, api.ErrSyntax, 3)
	refuses(t, "=-(-"+fill(1023)+")", every{}, api.ErrSyntax, 1)
	refuses(t, "=1*-(2+--"+fill(1019)+")", every{}, api.ErrSyntax, 3)
	refuses(t, "=1*-(2+--"+fill(1020)+")", every{}, api.ErrSyntax, 6)
	refuses(t, "=1*-(2+--"+fill(1021)+")", every{}, api.ErrSyntax, 7)
	refuses(t, "=1*-(2+--"+fill(1022)+")", every{}, api.ErrSyntax, 8)
}

// P6.1: the node of a call is made at its `)`, and told by its name.
func TestNodesOfCalls(t *testing.T) {
	for _, behind := range []string{"", "+1", "!", ")", "%"} {
		refuses(t, "=F("+fill(1024)+")"+behind, every{}, api.ErrSyntax, 1)
		refuses(t, "=1+F("+fill(1022)+",1)"+behind, every{}, api.ErrSyntax, 3)
		refuses(t, "=F(1, G("+fill(1023)+"))"+behind, every{}, api.ErrSyntax, 6)
		refuses(t, "=F(1, G("+fill(1022)+"))"+behind, every{}, api.ErrSyntax, 1)
		refuses(t, "=F("+fill(1022)+",A1:B2)"+"+-F()"+behind, every{}, api.ErrSyntax, 3+1022+9)
	}
	// Arguments that are not taken are told by the same name; a call that is not closed is not made.
	none := table{"F": func([]bool) bool { return false }}
	refuses(t, "=-F("+fill(1024)+")", none, api.ErrSyntax, 2)
	refuses(t, "=-F("+fill(1024), none, api.ErrSyntax, 4+1024)
	refuses(t, "=-F("+fill(1024)+",)", none, api.ErrSyntax, 4+1025)
	refuses(t, "=-F("+fill(1024)+",1)", none, api.ErrSyntax, 4+1025)
	refuses(t, "=-F("+fill(1024)+"+", none, api.ErrSyntax, 4+1025)
}

// P6.1: brackets and blanks have no nodes; a text's length is not asked.
func TestLongTexts(t *testing.T) {
	reads(t, "="+times(1<<20, " ")+"1"+times(1<<20, " ")+"+2", every{}, nodesOf("1 2 +"))
	long := times(1<<20, "x")
	reads(t, `="`+long+`"`, every{}, []api.Node{{Kind: api.NodeValue, Value: api.Value{Tag: api.Text, Str: long}}})
	thing := times(31, "(") + "1" + times(31, ")")
	f, code, _ := Parse("="+times(511, thing+"+")+thing, every{})
	if code != api.OK || len(f.Nodes) != 1023 {
		t.Errorf("many brackets: %d nodes, %d", len(f.Nodes), code)
	}
	refuses(t, "="+times(1<<20, "-"), every{}, api.ErrSyntax, 1+1<<20)
	refuses(t, "="+times(1<<20, "-")+"1", every{}, api.ErrSyntax, 1+1<<20-1024)
	refuses(t, "="+times(1<<20, "("), every{}, api.ErrTooDeep, 33)
	refuses(t, "="+times(1<<20, "1+"), every{}, api.ErrSyntax, 2*512)
}
