package pull

import (
	"errors"
	"fmt"
	"math"
	"math/rand"
	"slices"
	"testing"

	"oriel/addr"
	"oriel/api"
	"oriel/content"
	"oriel/eval"
)

// Here what the puller stands on is not kept as the chapter says, or a worker does what none should: nothing is promised then but R1, that each call ends, and none panics.

// asks asks all calls that there are.
func (x *sheet) asks() {
	for _, c := range append(wrongCells()[:9], at("A1"), at("A2"), at("A3"), at("B2"), at("IV4096")) {
		x.p.Get(c)
		x.p.Work()
		x.p.Drop(c)
	}
	x.p.Range(whole())
	x.p.Range(rect(math.MinInt, 0, math.MaxInt, 3))
	x.p.Values()
	x.p.Work()
}

// lays puts contents in the store alone: neither references nor marks are told.
func (x *sheet) lays(c api.Cell, says string) {
	x.t.Helper()
	now, code, _ := content.Read(says, text, x.table)
	if code != api.OK || x.s.Put(c, &now) != api.OK {
		x.t.Fatalf("%s may not be put", brief(says))
	}
}

// R1: contents of which the marks were never told, so that their cells have no state: of a great diamond too each is worked out once in a Get.
func TestNoStates(t *testing.T) {
	x := newSheet(t, api.MaxStamp, newPlain())
	x.lays(cell(1, 1), "=1")
	x.lays(cell(1, 2), "=0")
	for row := 2; row <= 2000; row++ {
		x.lays(cell(row, 1), fmt.Sprintf("=MAX(A%d,B%d)", row-1, row-1))
		x.lays(cell(row, 2), fmt.Sprintf("=MIN(A%d,B%d)", row-1, row-1))
	}
	x.gets(cell(2000, 1), 1, 3999, 3999, 2000)
	x.gets(cell(2000, 1), 1, 0, 3999, 2000)
	x.asks()
	for row := 1; row <= 2000; row++ {
		x.lays(cell(row, 1), fmt.Sprintf("=A%d+B%d", row%2000+1, row))
	}
	if v, work := x.p.Get(cell(3, 1)), x.p.Work(); v != ring || work.Pushed != 4000 || work.Pulls > 4000 {
		t.Errorf("Get = %v, %d pushed, %d on the stack", v, work.Pushed, work.Pulls)
	}
	x.asks()
}

// R1: references that are set otherwise than the contents are, or not at all.
func TestWrongReferences(t *testing.T) {
	for seed := range int64(60) {
		g := grid{Rand: rand.New(rand.NewSource(seed)), rows: 4, cols: 4, wild: 5}
		x := newSheet(t, 20, newPlain())
		for range 60 {
			c := g.cell()
			switch g.Intn(6) {
			case 0:
				x.lays(c, g.says(c.Row)+" ")
			case 1:
				x.d.Set(c, []api.Ref{{Rect: box(g.box(4)), Many: true}})
			case 2:
				x.marks.Touch(c, g.Intn(2) == 0)
			case 3:
				x.marks.Clean(c)
			case 4:
				x.k.Change(c)
			default:
				x.set(c, g.says(c.Row))
			}
			x.p.Get(g.cell())
			x.p.Range(box(g.box(4)))
		}
		x.asks()
	}
}

// R1: contents that nobody read out of a text: formulas that may not be, references of any numbers, many as one and one as many.
func TestWrongContents(t *testing.T) {
	numbers := []int{math.MinInt, -1, 0, 1, 2, 4096, 4097, math.MaxInt}
	nodes := []api.Node{{}, {Kind: -1}, {Kind: 77, Op: math.MaxInt}, {Kind: api.NodeCall, Name: "SUM", Args: math.MinInt}, {Kind: api.NodeCell, Cell: cell(-1, 9999)}}
	rnd := rand.New(rand.NewSource(1))
	anyNumber := func() int { return numbers[rnd.Intn(len(numbers))] }
	for range 200 {
		x := newSheet(t, 20, newPlain())
		for _, name := range []string{"A1", "A2", "A3", "B2", "IV4096"} {
			says := &content.Content{Is: rnd.Intn(4) > 0, Value: api.Value{Tag: api.Tag(anyNumber()), Str: "x", Code: api.Code(anyNumber())}}
			for range rnd.Intn(3) {
				says.Refs = append(says.Refs, api.Ref{Many: rnd.Intn(2) == 0, Rect: rect(anyNumber(), anyNumber(), anyNumber(), anyNumber())})
				says.Formula.Nodes = append(says.Formula.Nodes, nodes[rnd.Intn(len(nodes))])
			}
			x.s.Put(at(name), says)
			x.marks.Touch(at(name), says.Is)
		}
		x.asks()
	}
}

// R1: Drop that was not told: of a cell that had a formula, and has another one, a literal, or nothing.
func TestDropNotTold(t *testing.T) {
	x := newSheet(t, 20, newPlain())
	for _, says := range []string{"=A2", "=A3+1", "7", "=A1", "", "x"} {
		for _, name := range []string{"A1", "A2", "A3"} {
			x.set(at("A1"), "=A2&A3")
			x.set(at("A2"), "=A3")
			x.p.Get(at(name))
			if says == "" {
				x.s.Drop(at(name))
			} else {
				x.lays(at(name), says)
			}
			x.asks()
			x.marks.Touch(at(name), false)
			x.asks()
		}
	}
}

// R1: a clock that lets fewer stamps than there are formulas, so that it refuses changes.
func TestSmallClock(t *testing.T) {
	for most := 2; most <= 5; most++ {
		x := newSheet(t, most, newPlain())
		for turn := range 40 {
			x.set(cell(1, 1), fmt.Sprint(turn))
			for row := 2; row <= 12; row++ {
				x.set(cell(row, 1), fmt.Sprintf("=A%d+A%d", row-1, max(1, row-turn)))
			}
			x.p.Get(cell(2+turn%11, 1))
			x.p.Range(whole())
		}
		x.asks()
	}
}

// does is a worker that does anything, and then answers something.
type does func(at api.Cell, f api.Formula, s eval.Source) api.Value

func (w does) Work(at api.Cell, f api.Formula, s eval.Source) api.Value { return w(at, f, s) }

// R1: a worker that panics, with anything or nothing, or is itself nil behind its type: the cell's value is Fault CodeArg, and the next look goes on as if nothing had been.
func TestPanics(t *testing.T) {
	var none *teller
	var nobody *plain
	for i, w := range []Worker{
		does(func(api.Cell, api.Formula, eval.Source) api.Value { panic("words") }),
		does(func(api.Cell, api.Formula, eval.Source) api.Value { panic(errors.New("wrong")) }),
		does(func(api.Cell, api.Formula, eval.Source) api.Value { panic(nil) }),
		does(func(api.Cell, api.Formula, eval.Source) api.Value { panic(api.ErrArg) }),
		does(func(_ api.Cell, f api.Formula, _ eval.Source) api.Value { return f.Nodes[99].Value }),
		does(func(api.Cell, api.Formula, eval.Source) api.Value { var m map[int]int; m[1] = 1; return api.Value{} }),
		does(func(c api.Cell, _ api.Formula, s eval.Source) api.Value { s = nil; return s.Cell(c) }),
		does(nil), none, nobody,
	} {
		x := newSheet(t, 20, w)
		x.set(at("A1"), "1")
		x.set(at("A2"), "=A1")
		x.set(at("A3"), "=A2")
		for range 2 {
			x.gets(at("A3"), api.CodeArg, 2, 2, 2)
			x.gets(at("A3"), api.CodeArg, 0, 1, 1)
			x.set(at("A2"), "=A1+1")
		}
		x.p.Get(at("A3"))
		if n, _ := x.p.Values(); n != 2 {
			t.Errorf("%d: %d values", i, n)
		}
		x.asks()
	}
}

// R1: a worker that panics only sometimes: what it told otherwise holds, and the puller pulls as ever behind it.
func TestPanicsOnce(t *testing.T) {
	w, wrong := newPlain(), at("A2")
	x := newSheet(t, 20, does(func(c api.Cell, f api.Formula, s eval.Source) api.Value {
		if c == wrong {
			panic(c)
		}
		return w.Work(c, f, s)
	}))
	x.set(at("A1"), "1")
	x.set(at("A2"), "=A1")
	x.set(at("A3"), "=IFERR(A2,7)")
	x.gets(at("A3"), 7, 2, 2, 2)
	wrong = at("A9")
	x.set(at("A1"), "2")
	x.gets(at("A3"), 2, 2, 2, 2)
}

// meddler is a worker that asks and changes all it can get hold of.
type meddler struct {
	x *sheet
	grid
	kept []eval.Source
	done int
}

func (w *meddler) Work(c api.Cell, f api.Formula, s eval.Source) api.Value {
	w.kept = append(w.kept, s)
	for range 3 {
		w.meddle(c, w.kept[w.Intn(len(w.kept))])
	}
	return newPlain().Work(c, f, s)
}

// meddle does one thing that no worker should.
func (w *meddler) meddle(c api.Cell, s eval.Source) {
	other := w.cell()
	w.done++
	switch w.Intn(14) {
	case 0:
		w.x.marks.Touch(c, true)
	case 1:
		w.x.marks.Touch(other, w.Intn(2) == 0)
	case 2:
		w.x.s.Drop(other)
	case 3:
		w.x.set(other, w.says(other.Row))
	case 4:
		w.x.p.Drop(c)
	case 5:
		w.x.p.Drop(other)
	case 6:
		w.x.p.Get(c)
	case 7:
		w.x.p.Get(other)
	case 8:
		w.x.p.Range(whole())
	case 9:
		w.x.p.Work()
		w.x.p.Values()
	case 10:
		s.Cell(wrongCells()[w.Intn(20)])
		s.Rect(rect(math.MinInt, math.MinInt, math.MaxInt, math.MaxInt))
	case 11:
		if s, is := s.(interface{ Get(api.Cell) api.Value }); is {
			s.Get(other)
		}
	case 12:
		w.x.lays(other, "="+addr.Name(c))
	default:
		for row := 1; row <= 4; row++ {
			w.x.marks.Touch(cell(row, 1), true)
		}
	}
}

// R1: a worker that touches, drops, puts and asks the puller itself, and sources that it was handed ahead: each call ends.
func TestMeddler(t *testing.T) {
	count := 0
	for seed := range int64(60) {
		w := &meddler{grid: grid{Rand: rand.New(rand.NewSource(seed)), rows: 5, cols: 4, wild: 4}}
		x := newSheet(t, 30, w)
		w.x = x
		for range 60 {
			c := w.cell()
			x.set(c, w.says(c.Row))
			x.p.Get(w.cell())
			x.p.Range(box(w.box(5)))
		}
		x.asks()
		for _, s := range w.kept {
			s.Cell(w.cell())
			s.Rect(whole())
		}
		count += w.done
	}
	if count < 5000 {
		t.Errorf("it meddled %d times", count)
	}
}

// R1: a worker that asks the puller itself is told what is known, also of the cell that it works out: nothing is pulled for it, and Work tells of the look that goes on.
func TestAsksThePuller(t *testing.T) {
	var x *sheet
	var told []api.Value
	w := newPlain()
	x = newSheet(t, 20, does(func(c api.Cell, f api.Formula, s eval.Source) api.Value {
		told = append(told, x.p.Get(at("A1")), x.p.Get(at("A2")), x.p.Get(at("A3")), x.p.Get(at("A4")))
		if list := x.p.Range(whole()); len(list) != 4 || list[1].Value != told[len(told)-3] {
			t.Errorf("Range = %v", list)
		}
		if work := x.p.Work(); len(work.Log) == 0 || work.Log[len(work.Log)-1] != c {
			t.Errorf("Work is %v", work)
		}
		return w.Work(c, f, s)
	}))
	x.set(at("A1"), "1")
	x.set(at("A2"), "=A1+1")
	x.set(at("A3"), "=A2+1")
	x.set(at("A4"), "=A1")
	x.gets(at("A3"), 3, 2, 2, 2)
	want := []api.Value{wanted(1), {}, {}, {}, wanted(1), wanted(2), {}, {}}
	if !slices.Equal(told, want) {
		t.Errorf("it is told %v; want %v", told, want)
	}
}

// R1: two pullers whose workers ask each other's puller: both end.
func TestTwoThatAskEachOther(t *testing.T) {
	var one, two *sheet
	one = newSheet(t, 20, does(func(api.Cell, api.Formula, eval.Source) api.Value { return two.p.Get(at("A2")) }))
	two = newSheet(t, 20, does(func(api.Cell, api.Formula, eval.Source) api.Value { return one.p.Get(at("A2")) }))
	one.set(at("A2"), "=A1")
	two.set(at("A2"), "=A1")
	one.gets(at("A2"), nil, 1, 1, 1)
	two.gets(at("A2"), nil, 0, 1, 1)
}

// R1: a worker that answers values that may not be, or a ring's fault: all calls end, however often.
func TestWrongAnswers(t *testing.T) {
	for _, v := range []api.Value{
		ring, {Tag: -1}, {Tag: 99, Str: "x"}, {Tag: api.Number, Num: math.MaxInt64, Str: "x", Is: true}, {Tag: api.Fault, Code: 77}, {Tag: api.Text, Str: string(make([]byte, 5000))}, {Str: "blank"},
	} {
		x := newSheet(t, 20, &answers{v})
		for turn := range 3 {
			x.set(at("A1"), fmt.Sprint(turn))
			x.set(at("A2"), "=A1")
			x.set(at("A3"), "=A2+A1")
			x.set(at("B2"), "=SUM(A1:A3)")
			x.p.Range(whole())
			x.asks()
		}
	}
}

// R1: sources that are asked behind the look: they tell what is there, and pull nothing.
func TestSourceKept(t *testing.T) {
	var kept eval.Source
	w := newPlain()
	x := newSheet(t, 20, does(func(c api.Cell, f api.Formula, s eval.Source) api.Value {
		kept = s
		return w.Work(c, f, s)
	}))
	x.set(at("A1"), "1")
	x.set(at("A2"), "=A1")
	x.p.Get(at("A2"))
	x.set(at("A1"), "2")
	for _, c := range wrongCells() {
		if v := kept.Cell(c); v != wanted(nil) {
			t.Errorf("Cell(%v) = %v", c, v)
		}
	}
	if list := kept.Rect(whole()); len(list) != 2 || list[0].Value != wanted(2) || list[1].Value != wanted(1) {
		t.Errorf("Rect = %v", list)
	}
	if list := kept.Rect(rect(3, 3, 1, 1)); len(list) != 0 {
		t.Errorf("Rect = %v", list)
	}
	if work := x.p.Work(); len(work.Log) != 1 || work.Pushed != 1 {
		t.Errorf("Work is %v", work)
	}
}
