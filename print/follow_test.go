package print

import (
	"math/rand"
	"slices"
	"strings"
	"sync"
	"testing"
	"unsafe"

	"oriel/api"
	"oriel/lex"
	"oriel/parse"
	"oriel/refs"
)

// back checks that what is read out of a text is read again, the same, out of its one text; false if the text is no formula.
func back(t *testing.T, s string) bool {
	t.Helper()
	f, code, _ := parse.Parse(s, every{})
	if code != api.OK {
		return false
	}
	one, code := Print(f)
	if code != api.OK {
		t.Errorf("%s has no text: %d", short(s), code)
		return true
	}
	g, code, at := parse.Parse(one, every{})
	if code != api.OK || at != 0 || !refs.Same(f, g) {
		t.Errorf("%s is read otherwise out of %s: %d, %d", short(s), short(one), code, at)
	}
	if again, _ := Print(g); again != one {
		t.Errorf("%s: %s, and then %s", short(s), short(one), short(again))
	}
	return true
}

// P7.2: texts with blanks and brackets that need not stand there, and the text that is theirs.
func TestOneText(t *testing.T) {
	for s, want := range map[string]string{
		"= 1": "=1", "=1.50": "=1.5", "=1.0000": "=1", "=(1)": "=1", "=((A1))": "=A1", "= A1 + 2 * 3 ": "=A1+2*3", "=(A1)+(2*3)": "=A1+2*3", "=(A1+2)*3": "=(A1+2)*3",
		"=((1-2)-3)": "=1-2-3", "=1-((2-3))": "=1-(2-3)", "=-(-1)": "=--1", "=(-1)": "=-1", "=-(1%)": "=-1%", "=(-1)%": "=(-1)%", "=- - 1": "=--1", "=(1%)%": "=1%%",
		"=2*(-3)": "=2*-3", "=(-2)*3": "=-2*3", "=-(2*3)": "=-(2*3)", "=1-(-2)": "=1--2", "=(1<2)=3": "=1<2=3", "=1<(2=3)": "=1<(2=3)", "=(1&2)=(3+4)": "=1&2=3+4",
		"=F( )": "=F()", "=F( (1) , (A1:B2) )": "", "=F( (1) , A1:B2 )": "=F(1,A1:B2)", "=F((1+2),3)": "=F(1+2,3)", "=(F(1))*(G())": "=F(1)*G()",
		`="a""b" & " "`: `="a""b"&" "`, `=""`: `=""`, "=( TRUE )": "=TRUE", "=FALSE = TRUE": "=FALSE=TRUE", "= #DIV! ": "=#DIV!", "=1 <> 2": "=1<>2", "=1 >= 2": "=1>=2",
		"=" + strings.Repeat("(", 32) + "1" + strings.Repeat(")", 32): "=1",
	} {
		if back(t, s) != (want != "") {
			t.Errorf("%s: that it is read is wrong", short(s))
			continue
		}
		f, _, _ := parse.Parse(s, every{})
		if one, _ := Print(f); one != want {
			t.Errorf("%s: %s; want %s", short(s), short(one), short(want))
		}
	}
}

// P7.2: all short rows of tokens that are formulas.
func TestBackShort(t *testing.T) {
	var grow func(s string, words []string, most int) int
	grow = func(s string, words []string, most int) int {
		right := 0
		if back(t, s) {
			right = 1
		}
		// What is wrong ahead of its end stays so.
		if _, code, at := parse.Parse(s, every{}); most == 0 || code != api.OK && at < len(s) {
			return right
		}
		for _, word := range words {
			right += grow(s+word, words, most-1)
		}
		return right
	}
	for words, most := range map[string]int{
		`1 "" TRUE #ARG! A1 A1:B2 F( ( ) , + - * / % & = <> < <= > >=`: 4,
		"1 ( ) - % *":       8,
		"1 ( ) - + = &":     7,
		"F( ) , A1:B2 1 -":  7,
		`A1 ( ) / * %`:      8,
		`"" & ( ) < <> "("`: 7,
	} {
		if right := grow("=", strings.Fields(words), most); right < 20 {
			t.Errorf("%s: %d formulas", words, right)
		}
	}
}

// littered is a formula's text with blanks and brackets that need not stand there, within 32 open ones.
func littered(rnd *rand.Rand, s string) string {
	var b strings.Builder
	b.WriteString("=")
	tokens := slices.Collect(lex.Lex(s))
	for i, token := range tokens[:len(tokens)-1] {
		b.WriteString(strings.Repeat(" ", max(0, rnd.Intn(4)-2)))
		word := s[token.At:tokens[i+1].At]
		switch {
		case token.Kind == api.TokNum && strings.Contains(word, ".") && len(word)-strings.Index(word, ".") < 5:
			word += "0"
		case (token.Kind == api.TokCell || token.Kind == api.TokText) && rnd.Intn(3) == 0:
			word = "( " + word + ")"
		}
		b.WriteString(word)
	}
	return b.String()
}

// P7.2: random formulas, read out of texts that are not their one text.
func TestBackRandom(t *testing.T) {
	rnd := rand.New(rand.NewSource(72))
	read := 0
	for range 6000 {
		f := api.Formula{Nodes: random(rnd, rnd.Intn(8))}
		one, code := Print(f)
		if code != api.OK {
			continue
		}
		s := littered(rnd, one)
		if !back(t, s) {
			continue
		}
		read++
		g, _, _ := parse.Parse(s, every{})
		if again, _ := Print(g); again != one {
			t.Fatalf("%s: %s; want %s", short(s), short(again), short(one))
		}
	}
	if read < 3000 {
		t.Errorf("%d were read", read)
	}
}

// pairs are where the `(` and `)` of a text stand, that are not those of a call.
func pairs(s string) [][2]int {
	var open, list [][2]int
	ahead := api.Token{}
	for token := range lex.Lex(s) {
		switch {
		case token.Kind != api.TokSign:
		case token.Str == "(":
			call := 0
			if ahead.Kind == api.TokWord {
				call = 1
			}
			open = append(open, [2]int{token.At, call})
		case token.Str == ")":
			last := open[len(open)-1]
			open = open[:len(open)-1]
			if last[1] == 0 {
				list = append(list, [2]int{last[0], token.At})
			}
		}
		ahead = token
	}
	return list
}

// 'Brackets': they stand just where they must: without any pair of them another formula is read, or none.
func TestNoneTooMany(t *testing.T) {
	rnd := rand.New(rand.NewSource(73))
	looked := 0
	for range 8000 {
		f := api.Formula{Nodes: random(rnd, rnd.Intn(7))}
		s, code := Print(f)
		if code != api.OK || len(s) > 4000 {
			continue
		}
		if strings.Contains(strings.Join(strings.Split(s, `" "`), ""), " ") {
			t.Fatalf("%s has a blank", short(s))
		}
		for _, pair := range pairs(s) {
			looked++
			without := s[:pair[0]] + s[pair[0]+1:pair[1]] + s[pair[1]+1:]
			if g, code, _ := parse.Parse(without, every{}); code == api.OK && refs.Same(f, g) {
				t.Fatalf("%s: the brackets at %d need not stand there", short(s), pair[0])
			}
		}
	}
	if looked < 5000 {
		t.Errorf("%d pairs were looked at", looked)
	}
}

// P7.3: formulas that are not the same have two texts: all short ones.
func TestOneShort(t *testing.T) {
	for name, s := range sets() {
		told := map[string][]api.Node{}
		all(s.set, s.most, func(nodes []api.Node) {
			one, code := Print(api.Formula{Nodes: nodes})
			if code != api.OK {
				return
			}
			if other, known := told[one]; known {
				t.Fatalf("%s: %s is the text of %+v and of %+v", name, short(one), other, nodes)
			}
			told[one] = slices.Clone(nodes)
		})
	}
}

// P7.3: formulas that look alike have two texts; the same ones have one.
func TestOne(t *testing.T) {
	a, one, two := cell(1, 1), number(10000), number(20000)
	formulas := [][]api.Node{
		{one}, {two}, {number(1)}, {number(10001)}, {text("1")}, {text("")}, {text(" ")}, {text("  ")}, {text(`"`)}, {text(`""`)}, {text(`"""`)}, {text("a")}, {text("A")}, {text("a\x00")}, {text(`a"&"b`)},
		{truth(true)}, {truth(false)}, {text("TRUE")}, {text("FALSE")}, {number(0)}, {a}, {text("A1")}, {cell(1, 2)}, {cell(2, 1)}, {cell(11, 1)}, {cell(1, 27)},
		{fault(2)}, {fault(3)}, {fault(4)}, {fault(5)}, {fault(6)}, {fault(7)}, {fault(8)}, {text("#DIV!")},
		{one, op(1)}, {one, op(1), op(1)}, {one, op(2)}, {one, op(1), op(2)}, {one, op(2), op(1)}, {text("-1")}, {text("1%")},
		{a, fn("F", 1)}, {rect(1, 1, 1, 1), fn("F", 1)}, {rect(1, 1, 1, 2), fn("F", 1)}, {fn("F", 0)}, {fn("G", 0)}, {fn("FF", 0)}, {text("F()")}, {text(""), fn("F", 1)},
		{a, a, fn("F", 2)}, {a, fn("F", 1), a, op(api.OpAdd)}, {a, a, op(api.OpAdd), fn("F", 1)}, {text("a"), text("b"), op(api.OpCat)}, {text(`a""b`)}, {text(`a"b`)},
		{fn("G", 0), fn("F", 1)}, {fn("G", 0), fn("G", 0), fn("F", 2)}, {a, fn("G", 1), fn("F", 1)}, {a, fn("F", 1), fn("G", 1)}, {a, fn("G", 0), fn("F", 2)}, {fn("G", 0), a, fn("F", 2)},
		{one, two, one, op(6), op(6)}, {one, two, op(6), one, op(6)}, {one, two, one, op(5), op(6)}, {one, two, op(6), one, op(5)}, {one, two, op(1), op(6)}, {one, op(1), two, op(6)}, {one, two, op(6), op(1)},
	}
	for o := api.OpMul; o <= api.OpGe; o++ {
		formulas = append(formulas, row(one, two, op(o)), row(two, one, op(o)))
	}
	for i, f := range formulas {
		first, _ := Print(api.Formula{Nodes: f})
		for j, g := range formulas {
			clone := slices.Clone(g)
			second, code := Print(api.Formula{Nodes: append(clone, a)[:len(g)]})
			if code != api.OK || (first == second) != (i == j) {
				t.Errorf("%d, %d: %q, %q, %d", i, j, first, second, code)
			}
		}
	}
}

// P7.3: random formulas: one text just for the same ones.
func TestOneRandom(t *testing.T) {
	rnd := rand.New(rand.NewSource(74))
	told := map[string][]api.Node{}
	twice := 0
	for range 30000 {
		nodes := random(rnd, rnd.Intn(5))
		one, code := Print(api.Formula{Nodes: nodes})
		if code != api.OK {
			continue
		}
		if other, known := told[one]; known {
			twice++
			if !slices.Equal(nodes, other) {
				t.Fatalf("%s is the text of %+v and of %+v", short(one), other, nodes)
			}
		}
		told[one] = nodes
	}
	if twice < 1000 || len(told) < 5000 {
		t.Errorf("%d texts, %d times again", len(told), twice)
	}
}

// R4: a formula that is handed in is as it was, its spare room too, whether it has a text or not.
func TestHandedIn(t *testing.T) {
	rnd := rand.New(rand.NewSource(75))
	for range 3000 {
		nodes := random(rnd, rnd.Intn(6))
		if rnd.Intn(3) == 0 {
			nodes = append(nodes, op(1+rnd.Intn(13)))
		}
		spare := times(20, api.Node{Kind: 99, Name: "spare", Args: 7})
		room := join(nodes, spare)
		Print(api.Formula{Nodes: room[:len(nodes)]})
		if !slices.Equal(room, join(nodes, spare)) {
			t.Fatalf("%+v was changed", nodes)
		}
	}
}

// R4: the answer is new memory: who changes the bytes of a text or a name that was handed in does not change it.
func TestAnswerIsNew(t *testing.T) {
	for _, s := range []string{"", "a", "plain", `with "quotes"`, "ABCDEFGHIJKLMNOP"} {
		bytes := []byte("F" + s + "G_H")
		name := unsafe.String(&bytes[len(bytes)-3], 3)
		inner := unsafe.String(&bytes[1], len(s))
		got, code := Print(api.Formula{Nodes: row(text(inner), fn(name, 1))})
		want := `=G_H("` + strings.ReplaceAll(s, `"`, `""`) + `")`
		for i := range bytes {
			bytes[i] = 'Z'
		}
		if got != want || code != api.OK {
			t.Errorf("Print = %q, %d; want %q", got, code, want)
		}
	}
}

// R5: asked again, and by many at once, it answers the same, whatever was asked between.
func TestAgain(t *testing.T) {
	rnd := rand.New(rand.NewSource(76))
	var formulas [][]api.Node
	for range 200 {
		formulas = append(formulas, random(rnd, rnd.Intn(7)), row(rect(1, 1, 2, 2)), nil)
	}
	var done sync.WaitGroup
	for from := range 8 {
		done.Go(func() {
			for i := range formulas {
				if bad := against(formulas[(i*7+from)%len(formulas)]); bad != "" {
					t.Error(bad)
				}
			}
		})
	}
	done.Wait()
}
