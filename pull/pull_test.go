package pull

import (
	"fmt"
	"math"
	"slices"
	"strconv"
	"testing"

	"oriel/api"
	"oriel/content"
	"oriel/deps"
	"oriel/eval"
	"oriel/funcs"
	"oriel/marks"
	"oriel/stamps"
	"oriel/store"
)

// The chapter's examples, in their order.
func TestExamples(t *testing.T) {
	p := newPlay(t, 100)
	p.puts("A1 2", "A2 =A1*3", "A3 =A2>0", "B1 =B2", "B2 =B1")
	p.gets("A3", true, 2, 2, "A2", "A3")
	p.gets("A3", true, 1, 1)
	p.puts("A1 5")
	p.gets("A2", 15, 1, 1, "A2")
	p.gets("A3", true, 1, 1, "A3")
	p.puts("A1 5")
	p.gets("A3", true, 2, 2, "A2")
	p.gets("B1", api.CodeCycle, 2, 2)
	p.gets("B2", api.CodeCycle, 1, 1)
	p.puts("B2 1")
	p.has(box("B1:B2"), "B1", 1, "B2", 1)
	p.did(1, 1, "B1")
}

// P20.1, R1: with one of the four nil there is no puller.
func TestNewOfNil(t *testing.T) {
	s, d := store.New(), deps.New()
	m, k := marks.New(d), clock(t, 9)
	w := &teller{}
	for n := range 15 {
		s, m, k, w := s, m, k, Worker(w)
		if n&1 == 0 {
			s = nil
		}
		if n&2 == 0 {
			m = nil
		}
		if n&4 == 0 {
			k = nil
		}
		if n&8 == 0 {
			w = nil
		}
		if p, code := New(s, m, k, w); p != nil || code != api.ErrArg {
			t.Errorf("New(%v, %v, %v, %v) = %v, %d", s, m, k, w, p, code)
		}
	}
	if p, code := New(s, m, k, w); p == nil || code != api.OK {
		t.Errorf("New = %v, %d", p, code)
	}
}

func clock(t *testing.T, most int) *stamps.Clock {
	t.Helper()
	k, code := stamps.New(most)
	if code != api.OK {
		t.Fatal(code)
	}
	return k
}

// P20.1: a new puller has no value, also where there are contents ahead of it, and asks nothing of the four.
func TestNew(t *testing.T) {
	p := newPlay(t, 100)
	p.puts("A1 2", "A2 =A1*3", "A3 =A2>0", "A4 x")
	p.marks.Touch(at("A1"), false)
	states := p.states()
	other, code := New(p.s, p.marks, p.k, p.w)
	if code != api.OK {
		t.Fatal(code)
	}
	if n, bytes := other.Values(); n != 0 || bytes != 0 {
		t.Errorf("Values is %d, %d", n, bytes)
	}
	if w := other.Work(); len(w.Log) != 0 || w.Pushed != 0 || w.Pulls != 0 || w.Marks != p.marks.Peak() {
		t.Errorf("Work is %v", w)
	}
	if len(p.w.handed) != 0 || len(states) != 2 || p.states()[at("A2")] != api.Due || p.k.Last() != 0 || p.s.Count() != 4 {
		t.Error("New has changed something")
	}
	if v := other.Get(at("A3")); v != wanted(true) {
		t.Errorf("Get(A3) = %v", v)
	}
}

// P20.1: it keeps all four: what others change there behind New counts, and what it tells the marks and the clock is seen there.
func TestKeepsAll(t *testing.T) {
	table, s, d := funcs.New(), store.New(), deps.New()
	m, k := marks.New(d), clock(t, 9)
	w := &answers{v: wanted(7)}
	p, code := New(s, m, k, w)
	if code != api.OK {
		t.Fatal(code)
	}
	x, code, _ := content.Read("=A1", text, table)
	if code != api.OK {
		t.Fatal(code)
	}
	s.Put(at("A2"), &x)
	d.Set(at("A2"), x.Refs)
	m.Touch(at("A2"), true)
	if v := p.Get(at("A2")); v != wanted(7) {
		t.Errorf("Get(A2) = %v", v)
	}
	if state, is := m.State(at("A2")); state != api.Clean || !is {
		t.Errorf("the marks have %d, %v", state, is)
	}
	if st, is := k.Get(at("A2")); st != (api.Stamps{Changed: 1, Seen: 1}) || !is {
		t.Errorf("the clock has %v, %v", st, is)
	}
	w.v = wanted(8)
	m.Touch(at("A1"), false)
	if v := p.Get(at("A2")); v != wanted(8) {
		t.Errorf("Get(A2) = %v", v)
	}
	s.Drop(at("A2"))
	if v := p.Get(at("A2")); v != wanted(nil) {
		t.Errorf("Get(A2) = %v", v)
	}
}

// answers is a worker that answers one value, whatever it is asked.
type answers struct{ v api.Value }

func (w *answers) Work(api.Cell, api.Formula, eval.Source) api.Value { return w.v }

// P20.2: Get of a cell without a content is Blank, of a literal its value, of a formula what the worker tells.
func TestGet(t *testing.T) {
	p := newPlay(t, 100)
	p.puts("A1 12.5", "A2 TRUE", "A3 'TRUE", "A4 '", "A5 some words", "A6 =A1*2", "A7 =1/0", "A8 =A9", "A10 =A8&A5", "A11 x", "A11 ")
	for name, want := range map[string]any{
		"A1": api.Value{Tag: api.Number, Num: 125000}, "A2": true, "A3": "TRUE", "A4": "", "A5": "some words", "A6": 25, "A7": api.CodeDiv,
		"A8": nil, "A9": nil, "A10": "some words", "A11": nil, "IV4096": nil, "B1": nil,
	} {
		if got := p.get(at(name)); got != wanted(want) {
			t.Errorf("Get(%s) = %s; want %v", name, brief(got), want)
		}
	}
	p.holds(4, 10)
}

// P20.2, P20.4: of a cell without a formula nothing is put on the stack, and Work tells so, whatever the call ahead did.
func TestGetWithoutFormula(t *testing.T) {
	p := newPlay(t, 100)
	p.puts("A1 2", "A2 =A1", "A3 =A2")
	for i, name := range []string{"A1", "B7", "A4096"} {
		p.put("A1", strconv.Itoa(3+i))
		p.gets("A3", 3+i, 2, 2, "A2", "A3")
		p.get(at(name))
		p.did(0, 0)
	}
}

// P20.2: Get of a cell that may not be, of any numbers, is Blank, and does nothing.
func TestGetWrong(t *testing.T) {
	p := newPlay(t, 100)
	p.puts("A1 1", "IV4096 =A1", "A4096 =SUM(A1:IV1)")
	p.gets("IV4096", 1, 1, 1, "IV4096")
	for _, c := range wrongCells() {
		if got := p.get(c); got != wanted(nil) {
			t.Errorf("Get(%v) = %v", c, got)
		}
		p.did(0, 0)
	}
	p.holds(1, 0)
}

// P20.2: Range is Get of each cell with a content, row by row, those of one row by their columns; none else.
func TestRange(t *testing.T) {
	p := newPlay(t, 100)
	p.puts("C1 =A2", "A2 =B3", "B2 two", "B3 5", "A4 =C1&B2", "D2 9")
	p.has(box("A1:C4"), "C1", 5, "A2", 5, "B2", "two", "B3", 5, "A4", "5two")
	p.did(4, 2, "A2", "C1", "A4")
	p.has(box("A1:C4"), "C1", 5, "A2", 5, "B2", "two", "B3", 5, "A4", "5two")
	p.did(3, 1)
	p.has(box("B2:B2"), "B2", "two")
	p.did(0, 0)
	p.has(box("D3:E4"))
	p.has(box("A1:B1"))
	p.has(whole(), "C1", 5, "A2", 5, "B2", "two", "D2", 9, "B3", 5, "A4", "5two")
}

// P20.2: r may be any: what is beyond the sheet has no contents, what is turned round none either.
func TestRangeOfAny(t *testing.T) {
	p := newPlay(t, 100)
	p.puts("A1 =IV4096", "IV4096 3", "C7 =A1")
	numbers := []int{math.MinInt, -1, 0, 1, 3, 7, 256, 257, 4096, 4097, math.MaxInt}
	for _, top := range numbers {
		for _, left := range numbers {
			for _, bottom := range numbers {
				for _, right := range numbers {
					p.all(rect(top, left, bottom, right))
				}
			}
		}
	}
	p.has(rect(math.MinInt, math.MinInt, math.MaxInt, math.MaxInt), "A1", 3, "C7", 3, "IV4096", 3)
	p.has(rect(4096, 256, 1, 1))
	p.did(0, 0)
}

// P20.2: what comes first is put on the stack: reference by reference, in the order in which the formula has them.
func TestRefsInOrder(t *testing.T) {
	for _, c := range []struct {
		says string
		log  []string
	}{
		{"=B1+C1+B2", []string{"B1", "C1", "B2", "A9"}},
		{"=B2+C1+B1", []string{"B2", "C1", "B1", "A9"}},
		{"=C1+B2+B1+C1+B2", []string{"C1", "B2", "B1", "A9"}},
		{"=SUM(B1:C2)", []string{"B1", "C1", "B2", "A9"}},
		{"=B2+SUM(B1:C2)", []string{"B2", "B1", "C1", "A9"}},
		{"=SUM(C1:C2)+SUM(B1:C2)", []string{"C1", "B1", "B2", "A9"}},
		{"=IF(TRUE,1,C1)+IFERR(1,B2)", []string{"C1", "B2", "A9"}},
		{"=SUM(B2:B2,B1:B1)+C1", []string{"B2", "B1", "C1", "A9"}},
	} {
		p := newPlay(t, 100)
		p.puts("A1 1", "B1 =A1", "C1 =A1", "B2 =A1", "C2 x", "A9 "+c.says)
		p.get(at("A9"))
		p.did(len(c.log), 2, c.log...)
	}
}

// P20.2: the one that is put there comes first, with all below it; behind it the other goes on where it was.
func TestDeepFirst(t *testing.T) {
	p := newPlay(t, 100)
	p.puts("A1 =B1+C1+D1", "B1 =B2+B3", "B2 =B4", "B3 =C1", "B4 1", "C1 =C2", "C2 =B4+D1", "D1 =D2", "D2 2")
	p.gets("A1", 9, 7, 6, "B2", "D1", "C2", "C1", "B3", "B1", "A1")
}

// P20.2: a cell that is referred to twice, by two or by one, in a rectangle and by itself, is put there once.
func TestTwice(t *testing.T) {
	p := newPlay(t, 100)
	p.puts("A1 =A2+A2+SUM(A2:A3)+SUM(A2:A2)", "A2 =A3", "A3 =A4", "A4 1")
	p.gets("A1", 5, 3, 3, "A3", "A2", "A1")
	p.puts("A4 2")
	p.gets("A1", 10, 3, 3, "A3", "A2", "A1")
	p.puts("A4 2")
	p.gets("A1", 10, 3, 3, "A3")
}

// P20.2: a rectangle without contents, and cells without, lead nowhere; literals are not put on the stack.
func TestNothingBelow(t *testing.T) {
	p := newPlay(t, 100)
	p.puts("A1 =SUM(B1:IV4096)+A2", "A3 =COUNTA(B1:C9)", "A4 =7", "A5 =A6&A7")
	p.gets("A1", 0, 1, 1, "A1")
	p.gets("A3", 0, 1, 1, "A3")
	p.gets("A4", 7, 1, 1, "A4")
	p.gets("A5", "", 1, 1, "A5")
	p.puts("B2 1", "C9 x", "A7 y")
	p.gets("A3", 2, 1, 1, "A3")
	p.gets("A5", "y", 1, 1, "A5")
	p.gets("A1", 1, 1, 1, "A1")
}

// P20.2, 2.: a cell that is Due is worked out, though it has a value and nothing below has changed.
func TestDue(t *testing.T) {
	p := newPlay(t, 100)
	p.puts("A1 1", "A2 =A1", "A3 =A2")
	p.gets("A3", 1, 2, 2, "A2", "A3")
	p.puts("A1 1")
	p.gets("A2", 1, 1, 1, "A2")
	p.puts("A2 =A1")
	p.gets("A3", 1, 2, 2, "A2", "A3")
	p.puts("A2 =A1+0")
	p.gets("A2", 1, 1, 1, "A2")
	p.gets("A3", 1, 1, 1, "A3")
}

// P20.2, 3.: a cell that is Maybe, and below which no value is another, keeps its value, and is Clean.
func TestMaybe(t *testing.T) {
	p := newPlay(t, 100)
	p.puts("A1 1", "A2 =A1", "A3 =A2", "A4 =A3")
	p.gets("A4", 1, 3, 3, "A2", "A3", "A4")
	p.puts("A1 1")
	p.gets("A4", 1, 3, 3, "A2")
	p.puts("A1 1")
	p.gets("A3", 1, 2, 2, "A2")
	p.gets("A4", 1, 1, 1)
	p.puts("A1 2")
	p.gets("A3", 2, 2, 2, "A2", "A3")
	p.gets("A4", 2, 1, 1, "A4")
}

// P20.2, 2.: a cell without a value is worked out, also where its state is Maybe: it was put as a formula, or nobody has asked for it yet.
func TestNoValue(t *testing.T) {
	p := newPlay(t, 100)
	p.puts("A3 =A2", "A2 =A1", "A1 1")
	p.gets("A3", 1, 2, 2, "A2", "A3")
	p.p.Drop(at("A3"))
	p.m.forget(at("A3"))
	p.check("Drop(A3)")
	p.puts("A1 1")
	p.gets("A3", 1, 2, 2, "A2", "A3")
}

// P20.2, 2.: which of the cells below has changed makes no difference: the first, one between, the last, in a rectangle or not.
func TestNewerBelow(t *testing.T) {
	for _, says := range []string{"=B2+C2+D2+E2", "=SUM(B2:E2)", "=D2+SUM(B2:E2)", "=SUM(B2:C2)+SUM(D2:E2)"} {
		for _, col := range []string{"B", "C", "D", "E"} {
			p := newPlay(t, 100)
			p.puts("B1 1", "C1 1", "D1 1", "E1 1", "B2 =B1>0", "C2 =C1>0", "D2 =D1>0", "E2 =E1>0", "A9 "+says)
			p.get(at("A9"))
			p.puts(col + "1 2")
			p.get(at("A9"))
			p.did(2, 2, col+"2")
			p.puts(col + "1 -1")
			p.get(at("A9"))
			p.did(2, 2, col+"2", "A9")
			p.puts(col + "1 1")
			p.get(at(col + "2"))
			p.get(at("A9"))
			p.did(1, 1, "A9")
		}
	}
}

// P20.2: a value of another kind, or a fault of another code, is another value; the same one is not.
func TestAnother(t *testing.T) {
	p := newPlay(t, 200)
	p.puts("A2 =A1", "A3 =COUNTA(A2:A2)")
	p.get(at("A3"))
	for _, says := range []string{"0", "'0", "FALSE", "'FALSE", "'", "0.0001", "'0.0001"} {
		p.puts("A1 " + says)
		p.get(at("A3"))
		p.did(2, 2, "A2", "A3")
		p.puts("A1 " + says)
		p.get(at("A3"))
		p.did(2, 2, "A2")
	}
	for _, says := range []string{"=1/0", "=ERR(2)", "=-\"x\""} {
		p.puts("A1 " + says)
		p.get(at("A3"))
		p.did(3, 3, "A1", "A2", "A3")
		p.puts("A1 " + says)
		p.get(at("A3"))
		p.did(3, 3, "A1", "A2")
	}
}

// P20.2: the clock is told Change of a cell that had no value, or another one, and See of each that ends; of what is Clean nothing.
func TestClock(t *testing.T) {
	p := newPlay(t, 100)
	has := func(name string, changed, seen int) {
		t.Helper()
		if s, is := p.k.Get(at(name)); s != (api.Stamps{Changed: changed, Seen: seen}) || !is {
			t.Fatalf("%s has the stamps %v, %v; want %d, %d", name, s, is, changed, seen)
		}
	}
	p.puts("A1 1", "A2 =A1", "A3 =A2>0", "A4 =A3")
	p.get(at("A4"))
	has("A2", 1, 1)
	has("A3", 2, 2)
	has("A4", 3, 3)
	p.get(at("A4"))
	p.puts("A1 2")
	has("A4", 3, 3)
	p.get(at("A4"))
	has("A2", 4, 4)
	has("A3", 2, 4)
	has("A4", 3, 4)
	p.puts("A1 2")
	p.get(at("A2"))
	has("A2", 4, 4)
	p.get(at("A4"))
	has("A3", 2, 4)
	p.puts("A3 =A2<0")
	if s, is := p.k.Get(at("A3")); is {
		t.Fatalf("A3 has the stamps %v", s)
	}
	p.get(at("A3"))
	has("A3", 5, 5)
	has("A4", 3, 4)
	p.get(at("A4"))
	has("A4", 6, 6)
	if _, is := p.k.Get(at("A1")); is {
		t.Error("a literal has stamps")
	}
}

// P20.2: the fault of a ring is a value as others: the clock is told of it, and who had it keeps it.
func TestClockOfRings(t *testing.T) {
	p := newPlay(t, 100)
	p.puts("A1 =B1", "B1 =A1", "C1 =B1")
	p.gets("C1", api.CodeCycle, 3, 3)
	if p.k.Last() != 3 {
		t.Errorf("%d changes", p.k.Last())
	}
	p.puts("D1 =C1")
	p.marks.Touch(at("A1"), true)
	p.gets("C1", api.CodeCycle, 3, 3)
	if p.k.Last() != 3 {
		t.Errorf("%d changes", p.k.Last())
	}
	for _, name := range []string{"A1", "B1", "C1"} {
		if s, _ := p.k.Get(at(name)); s.Seen != 3 {
			t.Errorf("%s has %v", name, s)
		}
	}
}

// P20.3: Drop forgets a cell's value, and its stamps, also if it has no value; nothing else. Of a cell that may not be it does nothing.
func TestDrop(t *testing.T) {
	p := newPlay(t, 100)
	p.puts("A1 1", "A2 =A1", "A3 =A2&\"x\"")
	p.get(at("A3"))
	p.holds(2, 2)
	p.p.Drop(at("A3"))
	p.m.forget(at("A3"))
	p.holds(1, 0)
	if _, is := p.k.Get(at("A3")); is {
		t.Error("A3 has stamps")
	}
	if _, is := p.k.Get(at("A2")); !is {
		t.Error("A2 has none")
	}
	p.k.Change(at("A7"))
	p.k.See(at("B7"))
	p.p.Drop(at("A7"))
	p.p.Drop(at("B7"))
	for _, name := range []string{"A7", "B7"} {
		if _, is := p.k.Get(at(name)); is {
			t.Errorf("%s has stamps", name)
		}
	}
	for _, c := range wrongCells() {
		p.p.Drop(c)
		p.holds(1, 0)
	}
	p.p.Drop(at("A1"))
	p.p.Drop(at("A3"))
	p.holds(1, 0)
	if state, is := p.marks.State(at("A3")); state != api.Clean || !is {
		t.Errorf("A3 has the state %d, %v", state, is)
	}
}

// P20.3: a cell that is dropped and put again, as it was or otherwise, as a formula or a literal, has what it says then.
func TestDroppedAndPut(t *testing.T) {
	p := newPlay(t, 1000)
	p.puts("A1 1", "A2 =A1", "A3 =A2")
	steps := []string{"", "=A1", "=A1+1", "7", "x", "=A3"}
	for _, first := range steps {
		for _, second := range steps {
			for _, look := range []string{"A3", "A2", "A1", ""} {
				p.put("A2", first)
				if look != "" {
					p.get(at(look))
				}
				p.put("A2", second)
				p.all(box("A1:A3"))
			}
		}
	}
}

// P20.4: ahead of the first Get or Range Work has none, 0, 0.
func TestWorkAhead(t *testing.T) {
	p := newPlay(t, 100)
	p.did(0, 0)
	p.puts("A1 1", "A2 =A1", "A3 =A2", "A1 2")
	p.did(0, 0)
	p.p.Drop(at("A3"))
	p.did(0, 0)
	p.p.Values()
	p.did(0, 0)
}

// P20.4: Work is of the last Get or Range alone; a Drop, a put, and Work and Values themselves change none of it.
func TestWorkOfLast(t *testing.T) {
	p := newPlay(t, 100)
	p.puts("A1 1", "A2 =A1", "A3 =A2", "B3 =A3")
	p.gets("A3", 1, 2, 2, "A2", "A3")
	p.p.Drop(at("A3"))
	p.p.Drop(at("A9"))
	p.p.Values()
	p.m.forget(at("A3"))
	p.did(2, 2, "A2", "A3")
	p.puts("A3 =A1")
	p.did(2, 2, "A2", "A3")
	p.gets("B3", 1, 2, 2, "A3", "B3")
	p.puts("A1 2")
	p.has(box("A2:B3"), "A2", 2, "A3", 2, "B3", 2)
	p.did(3, 1, "A2", "A3", "B3")
	p.has(box("A7:B9"))
	p.did(0, 0)
	p.has(box("A1:B9"), "A1", 2, "A2", 2, "A3", 2, "B3", 2)
	p.did(3, 1)
}

// P20.4: of a Range Log is all that was worked out, in order, Pushed all pushes, Pulls the most of any of its cells.
func TestWorkOfRange(t *testing.T) {
	p := newPlay(t, 100)
	p.puts("A1 =A2", "A2 =A3", "A3 =A4", "A4 1", "B1 =A1", "B2 =B3", "B3 =A3", "B4 =B2")
	p.all(box("A1:B4"))
	p.did(10, 3, "A3", "A2", "A1", "B1", "B3", "B2", "B4")
	p.puts("A4 2")
	p.all(box("B1:B4"))
	p.did(8, 4, "A3", "A2", "A1", "B1", "B3", "B2", "B4")
	p.puts("A4 3")
	p.all(rect(4, 1, 1, 1))
	p.did(0, 0)
	p.all(box("A3:A3"))
	p.did(1, 1, "A3")
}

// P20.4: Marks is the marks' Peak, as it is when Work is asked: not as it was in the last Get.
func TestWorkMarks(t *testing.T) {
	p := newPlay(t, 100)
	p.puts("A1 1", "A2 =A1", "A3 =A1", "A4 =A1")
	p.all(whole())
	for range 3 {
		p.marks.Touch(at("A1"), false)
		if got := p.p.Work().Marks; got != 3 {
			t.Errorf("Marks is %d", got)
		}
		p.marks.Touch(at("A1"), false)
		if got := p.p.Work().Marks; got != 0 {
			t.Errorf("Marks is %d", got)
		}
		p.all(whole())
		p.marks.Touch(at("A1"), false)
		p.get(at("A2"))
		if got := p.p.Work().Marks; got != 3 {
			t.Errorf("Marks is %d", got)
		}
		p.all(whole())
	}
}

// P20.5: Values counts the cells with formulas that have a value here, and the bytes of their Texts: not those of literals.
func TestValues(t *testing.T) {
	p := newPlay(t, 100)
	p.holds(0, 0)
	p.puts("A1 literal", "A2 =A1", "A3 =A2&\"\u00fc\"", "A4 =1", "A5 =1/0", "A6 =A6", "A7 =A99", "A8 =\"\"", "A9 =TRUE")
	p.holds(0, 0)
	p.get(at("A1"))
	p.holds(0, 0)
	p.get(at("A3"))
	p.holds(2, 7+9)
	p.all(whole())
	p.holds(8, 7+9)
	p.puts("A1 x")
	p.holds(8, 7+9)
	p.get(at("A2"))
	p.holds(8, 1+9)
	p.get(at("A3"))
	p.holds(8, 1+3)
	p.puts("A2 =7")
	p.holds(7, 3)
	p.puts("A4 words")
	p.holds(6, 3)
	p.puts("A3 ")
	p.holds(5, 0)
	p.all(whole())
	p.holds(6, 0)
}

// P20.2: what the source tells a worker: of a cell its value, Blank without a content; of a rectangle the cells with contents, row by row.
func TestSource(t *testing.T) {
	p := newPlay(t, 100)
	p.puts("A1 1", "A2 x", "A3 =A1+1", "A5 TRUE", "A6 =1/0", "A7 '", "B1 =A3", "B2 =B2", "C1 =A1&A2&A3&A4&SUM(A1:B7)&SUM(A4:A4)&A6&B7")
	p.puts("B2 ")
	p.get(at("C1"))
	last := p.w.handed[len(p.w.handed)-1]
	entry := func(name string, x any) api.Entry { return api.Entry{Cell: at(name), Value: wanted(x)} }
	want := []toldOf{
		{one("A1"), []api.Entry{entry("A1", 1)}}, {one("A2"), []api.Entry{entry("A2", "x")}}, {one("A3"), []api.Entry{entry("A3", 2)}}, {one("A4"), []api.Entry{entry("A4", nil)}},
		{many("A1:B7"), []api.Entry{entry("A1", 1), entry("B1", 2), entry("A2", "x"), entry("A3", 2), entry("A5", true), entry("A6", api.CodeDiv), entry("A7", "")}},
		{many("A4:A4"), nil}, {one("A6"), []api.Entry{entry("A6", api.CodeDiv)}}, {one("B7"), []api.Entry{entry("B7", nil)}},
	}
	if !same([]handed{last}, []handed{{at("C1"), p.m.says[at("C1")].Formula, want}}) {
		t.Errorf("the source tells %s", brief(last.told))
	}
}

func one(name string) api.Ref  { return api.Ref{Rect: box(name + ":" + name)} }
func many(name string) api.Ref { return api.Ref{Many: true, Rect: box(name)} }

// P20.2: the source tells without pulling anything: nothing is put on the stack for it, worked out, or marked.
func TestSourcePullsNothing(t *testing.T) {
	p := newPlay(t, 100)
	p.puts("A1 1", "A2 =A1", "A3 =A2+SUM(A1:A2)", "A4 =SUM(A1:A3)+A3", "A5 =A4")
	var seen []string
	p.w.watch = func() {
		n, bytes := p.p.Values()
		seen = append(seen, fmt.Sprint(p.p.Work(), p.states(), n, bytes, p.k.Last()))
	}
	p.get(at("A5"))
	for i := 0; i < len(seen); i += 2 {
		if seen[i] != seen[i+1] {
			t.Errorf("ahead of what the source was asked: %s; behind it: %s", seen[i], seen[i+1])
		}
	}
	if len(seen) != 8 {
		t.Errorf("the worker was watched %d times", len(seen))
	}
}

// P20.2: the worker is handed the cell, and its formula as it stands in the store; in the order of Log, none twice.
func TestHanded(t *testing.T) {
	p := newPlay(t, 100)
	p.puts("A1 1", "B1 =A1*2", "C1 =B1&\"x\"", "D1 =IF(A1>0,C1,B1)", "E1 =D1&C1&B1&A1")
	for _, want := range [][]string{{"B1", "C1", "D1", "E1"}, nil} {
		p.get(at("E1"))
		p.did(p.p.Work().Pushed, p.p.Work().Pulls, want...)
		if got := p.w.handed; len(got) != len(want) {
			t.Fatalf("the worker is handed %s", brief(got))
		}
		for i, h := range p.w.handed {
			if says := p.s.Get(at(want[i])); h.at != at(want[i]) || !slices.Equal(h.f.Nodes, says.Formula.Nodes) {
				t.Errorf("the worker is handed %s", brief(h))
			}
		}
	}
}
