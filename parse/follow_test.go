package parse

import (
	"math/rand"
	"slices"
	"strings"
	"sync"
	"testing"
	"unsafe"

	"oriel/api"
	"oriel/lex"
	"oriel/refs"
)

// samples are texts that are read, of all kinds of things.
func samples() []string {
	list := []string{
		"=1", "=A1", `="a b"`, "=TRUE", "=#DIV!", "=F()", "=F(A1:B2)", "=F(A1:B2,1,-2%)", "=1+2*3", "=-(1+2)%", "=(1=2)&3", "=1<=2<>3>=4", "=--1%%", "=F(G(F(1),A1:B2),(2))", `=IF(A1>=0.5,"a""b",#MISS!)`,
		"=MAX(A1:B2,1)-MAX(SUM(A1:IV4096))", "=1-(2-(3-4))", "=" + fill(1024), "=-" + fill(1023), "=" + times(31, "(") + "1" + times(31, ")"), "=" + times(31, "F(") + "A1:B2" + times(31, ")"),
	}
	rnd := rand.New(rand.NewSource(63))
	for range 2000 {
		if text := "=" + strings.Join(random(rnd, rnd.Intn(6)), ""); reading(text, every{}) {
			list = append(list, text)
		}
	}
	return list
}

func reading(text string, t Table) bool {
	_, code, _ := Parse(text, t)
	return code == api.OK
}

// wrongs are texts that are refused.
func wrongs() []string {
	return []string{
		"", "1", "=", "=1+", "=1 2", "=)", "=(", "=A1:B2", "=F(A1:B2+1)", "=NO(1,2)", "=NONE(1)", "=F", "=TRUE()", "=F(1,)", "=!", "=1*!", "=ABCDEFGHIJKLMNOPQ()", "=F(" + times(17, "1,") + ")",
		"=" + times(33, "("), "=" + times(40, "F("), "=" + fill(1025), "=--" + fill(1023), "=1+F(" + fill(1024) + ")", "=" + fill(1023) + "-1", "=F(1,NO(", "=F(1,NO()", "=-NO(2)+", "=F(A1:B2)%)",
	}
}

// What follows: what is read is a formula that may be; its fields are just those of its kinds.
func TestMayBe(t *testing.T) {
	for _, text := range samples() {
		f, code, at := Parse(text, every{})
		if code != api.OK || at != 0 || refs.Check(f) != api.OK {
			t.Errorf("Parse(%s) = %d, %d; Check = %d", short(text), code, at, refs.Check(f))
		}
		if open := refs.Depth(f); open > strings.Count(text, "(") {
			t.Errorf("Parse(%s) is %d deep", short(text), open)
		}
	}
}

// What follows: blanks between tokens change nothing in what is read; of what is refused they change the place alone.
func TestBlanks(t *testing.T) {
	rnd := rand.New(rand.NewSource(64))
	for _, text := range append(samples(), wrongs()...) {
		list := slices.Collect(lex.Lex(text))
		if list[0].At == 0 {
			continue
		}
		for _, most := range []int{1, 2, 5} {
			var b strings.Builder
			b.WriteString("=")
			moved := map[int]int{0: 0}
			for i, token := range list {
				b.WriteString(times(rnd.Intn(most+1), " "))
				moved[token.At] = b.Len()
				end := len(text)
				if i+1 < len(list) {
					end = list[i+1].At
				}
				b.WriteString(text[token.At:end])
			}
			f, code, at := Parse(text, wide())
			g, codeWith, atWith := Parse(b.String(), wide())
			if codeWith != code || !refs.Same(f, g) || atWith != moved[at] {
				t.Fatalf("Parse(%s) = %d, %d; Parse(%s) = %d, %d", short(text), code, at, short(b.String()), codeWith, atWith)
			}
		}
	}
}

// deepest is how many brackets of a text are open at most.
func deepest(text string) int {
	open, most := 0, 0
	for token := range lex.Lex(text) {
		switch {
		case token.Kind != api.TokSign:
		case token.Str == "(":
			open++
			most = max(most, open)
		case token.Str == ")":
			open--
		}
	}
	return most
}

// What follows: brackets around the whole change nothing in what is read, as long as no more than 32 are open.
func TestAround(t *testing.T) {
	for _, text := range samples() {
		f, _, _ := Parse(text, every{})
		room := 32 - deepest(text)
		for _, around := range []int{1, 2, room - 1, room} {
			if around < 0 || around > room {
				continue
			}
			reads(t, "="+times(around, "(")+text[1:]+times(around, ")"), every{}, f.Nodes)
			reads(t, "="+times(around, " ( ")+text[1:]+times(around, " ) "), every{}, f.Nodes)
			if around > 0 {
				refuses(t, "="+times(around, "(")+text[1:]+times(around-1, ")"), every{}, api.ErrSyntax, around+len(text)+around-1)
			}
		}
		if _, code, _ := Parse("="+times(room+1, "(")+text[1:]+times(room+1, ")"), every{}); code != api.ErrTooDeep {
			t.Errorf("%s in %d brackets: %d", short(text), room+1, code)
		}
	}
}

// just is a table that knows and takes what stands in one formula, and nothing else.
func just(f api.Formula) table {
	t := table{}
	for _, n := range f.Nodes {
		if n.Kind == api.NodeCall {
			t[n.Name] = func(rects []bool) bool {
				return slices.ContainsFunc(f.Nodes, func(m api.Node) bool { return m.Kind == api.NodeCall && m.Name == n.Name && m.Args == len(rects) })
			}
		}
	}
	return t
}

// What follows: another table that knows and takes as much of what stands in the text reads the same.
func TestOtherTables(t *testing.T) {
	for _, text := range samples() {
		f, _, _ := Parse(text, every{})
		other := just(f)
		reads(t, text, other, f.Nodes)
		more := table{"NEVER": anything, "Q": anything}
		for name, takes := range other {
			more[name] = takes
		}
		reads(t, text, more, f.Nodes)
		// With less it is refused.
		for name := range other {
			less := table{}
			for one, takes := range other {
				if one != name {
					less[one] = takes
				}
			}
			if reading(text, less) {
				t.Errorf("Parse(%s) without %s reads", short(text), name)
			}
		}
	}
}

// meddler changes and keeps what it is asked with.
type meddler struct{ kept [][]bool }

func (m *meddler) Known(string) bool { return true }

func (m *meddler) Takes(_ string, rects []bool) bool {
	for i := range rects {
		rects[i] = !rects[i]
	}
	for _, old := range m.kept {
		clear(old[:cap(old)])
	}
	m.kept = append(m.kept, append(rects, true, true, true))
	return true
}

// R4, R5: a table that changes what it is asked with changes nothing in what is read.
func TestMeddler(t *testing.T) {
	for _, text := range samples() {
		f, _, _ := Parse(text, every{})
		reads(t, text, &meddler{}, f.Nodes)
	}
	m := &meddler{}
	reads(t, "=F(A1:B2,G(A1:B2,1),2)", m, nodesOf("A1:B2 A1:B2 1 G/2 2 F/3"))
}

// R4: a text that is handed in is not changed and not kept: who changes its bytes later does not change what was read.
func TestTextHandedIn(t *testing.T) {
	for _, text := range append(samples(), wrongs()...) {
		bytes := []byte(text + "+spare")
		f, code, at := Parse(unsafe.String(&bytes[0], len(text)), wide())
		if string(bytes) != text+"+spare" {
			t.Fatalf("Parse(%s) has changed the text", short(text))
		}
		for i := range bytes {
			bytes[i] = 'Z'
		}
		g, again, atAgain := Parse(text, wide())
		if again != code || atAgain != at || !refs.Same(f, g) {
			t.Fatalf("Parse(%s) hangs on the text's bytes", short(text))
		}
	}
}

// R4: who asks may change the answer, and lay something behind it: no other answer is touched.
func TestAnswers(t *testing.T) {
	for _, text := range samples() {
		one, _, _ := Parse(text, every{})
		two, _, _ := Parse(text, every{})
		want := slices.Clone(two.Nodes)
		for i := range one.Nodes {
			one.Nodes[i] = nodeOf("#ARG!")
		}
		_ = append(one.Nodes, nodeOf("7"), nodeOf("8"))
		clear(one.Nodes[:cap(one.Nodes)])
		if !slices.Equal(two.Nodes, want) {
			t.Fatalf("Parse(%s): an answer that was changed is seen by another", short(text))
		}
		reads(t, text, every{}, want)
	}
}

// R5: asked again, and by many at once, it answers the same, whatever was asked between.
func TestAgain(t *testing.T) {
	texts := append(samples()[:40], wrongs()...)
	var all sync.WaitGroup
	for from := range 8 {
		all.Go(func() {
			for i := range texts {
				text := texts[(i*7+from)%len(texts)]
				if bad := against(text, wide()); bad != "" {
					t.Error(bad)
				}
			}
		})
	}
	all.Wait()
}

// broken is a table that can't answer: a nil pointer to it is none.
type broken struct{ names map[string]int }

func (b *broken) Known(name string) bool { return b.names[name] > 0 }

func (b *broken) Takes(name string, _ []bool) bool {
	b.names[name]++
	return true
}

// R1: it does not panic, also where the table does.
func TestTableGivesUp(t *testing.T) {
	refuses(t, "=1+F(1)", (*broken)(nil), api.ErrArg, 0)
	refuses(t, "=1+F(1)", &broken{}, api.ErrSyntax, 3)
	refuses(t, "=1+F(1)", table{"F": func([]bool) bool { panic("no") }}, api.ErrArg, 0)
	refuses(t, "=1+F(1)", table{"F": func([]bool) bool { panic(api.ErrSyntax) }}, api.ErrArg, 0)
	refuses(t, "=1+F(1)", table{"F": func(rects []bool) bool { return rects[len(rects)] }}, api.ErrArg, 0)
	// Where it is not asked it does not matter.
	reads(t, "=1+2", (*broken)(nil), nodesOf("1 2 +"))
}

// R1: whatever bytes stand in a text, it ends and answers as the model.
func TestAnyBytes(t *testing.T) {
	rnd := rand.New(rand.NewSource(65))
	for range 20000 {
		bytes := make([]byte, rnd.Intn(12))
		for i := range bytes {
			bytes[i] = byte(rnd.Intn(256))
			if rnd.Intn(2) == 0 {
				bytes[i] = "=()+-,%1AF:\"#! "[rnd.Intn(15)]
			}
		}
		text := string(bytes)
		if rnd.Intn(4) > 0 {
			text = "=" + text
		}
		if bad := against(text, wide()); bad != "" {
			t.Fatal(bad)
		}
	}
}
