package eval

import (
	"math"
	"math/rand"
	"slices"
	"testing"

	"oriel/api"
	"oriel/funcs"
)

// liar is a source that tells otherwise than it should.
type liar struct {
	one  api.Value
	list []api.Entry
}

func (l liar) Cell(api.Cell) api.Value { return l.one }

func (l liar) Rect(api.Rect) []api.Entry { return l.list }

// R1: whatever a source tells, each formula is worked out to an end, without a panic.
func TestLiars(t *testing.T) {
	rnd, table := rand.New(rand.NewSource(131)), funcs.New()
	e := New(table, 8, answers())
	lists := [][]api.Entry{
		nil, {}, {{}}, {{}, {}}, {{Cell: api.Cell{Row: 1, Col: 1}, Value: wholes(1)}, {Cell: api.Cell{Row: 1, Col: 1}, Value: wholes(2)}}, {{Cell: api.Cell{Row: 9, Col: 2}, Value: wholes(1)}, {Cell: api.Cell{Row: 1, Col: 1}, Value: wholes(2)}},
		{{Cell: api.Cell{Row: math.MaxInt, Col: math.MinInt}, Value: wholes(1)}}, {{Cell: api.Cell{Row: -1, Col: -1}}}, {{Cell: api.Cell{Row: 4096, Col: 256}, Value: wholes(1)}}, slices.Repeat([]api.Entry{{Cell: api.Cell{Row: 1, Col: 1}, Value: text("x")}}, 1<<12),
	}
	for _, v := range wrongValues() {
		lists = append(lists, []api.Entry{{Cell: api.Cell{Row: 1, Col: 1}, Value: v}})
	}
	var formulas []api.Formula
	for _, name := range table.Names() {
		for args := range 4 {
			formulas = append(formulas, formula(append(times(args, cell(1, 1)), fn(name, args))...), formula(append(times(args, rect(1, 1, 1, 1)), fn(name, args))...), formula(append(times(args, rect(1, 1, 9, 2), cell(1, 1), val(1))[:args], fn(name, args))...))
		}
	}
	for n := api.OpNeg; n <= api.OpGe; n++ {
		formulas = append(formulas, formula(cell(1, 1), op(n)), formula(cell(1, 1), cell(2, 1), op(n)), formula(cell(1, 1), val(1), op(n)), formula(val("x"), cell(1, 1), op(n)))
	}
	for range 200 {
		formulas = append(formulas, formula(random(rnd, rnd.Intn(7))...))
	}
	for i, one := range wrongValues() {
		for _, f := range formulas {
			e.Work(f, liar{one, lists[i%len(lists)]})
		}
	}
	for _, list := range lists {
		for _, f := range formulas {
			e.Work(f, liar{wholes(1), list})
		}
	}
}

// broken is a source, and a host, that can't answer.
type broken struct{ why any }

func (b *broken) Cell(api.Cell) api.Value { panic(b.why) }

func (b *broken) Rect(api.Rect) []api.Entry { panic(b.why) }

func (b *broken) Ask(int64) api.Value { panic(b.why) }

// R1: a source or a host that gives up is no panic of this layer: of it nothing is worked out; the next one is answered as ever.
func TestBroken(t *testing.T) {
	var none *broken
	for _, b := range []*broken{{"no"}, {nil}, {api.ErrArg}, {7}, none} {
		e := New(funcs.New(), 8, b)
		for _, text := range []string{"=A1", "=1+A1", "=SUM(A1:B2)", "=IFERR(A1,5)", "=ISERR(SUM(A1:A1))", "=ASK(A1)", "=IF(TRUE,1,A1)"} {
			if v := e.Work(read(text), b); v != fault(api.CodeArg) {
				t.Errorf("%s = %s", text, brief(v))
			}
		}
		for _, text := range []string{"=ASK(1)", "=1+ASK(A1)", "=SUM(ASK(1),2)"} {
			if v := e.Work(read(text), sample()); v != fault(api.CodeArg) {
				t.Errorf("%s = %s", text, brief(v))
			}
		}
		works(t, 4, e, sample(), cell(1, 1), val(2), op(api.OpAdd))
		works(t, 3, e, b, val(1), val(2), op(api.OpAdd))
		works(t, api.CodeType, e, b, val("x"), fn("ASK", 1))
	}
}

// turncoat is a source that changes the formula that is worked out.
type turncoat struct{ nodes []api.Node }

func (c turncoat) Cell(api.Cell) api.Value {
	for i := range c.nodes {
		c.nodes[i] = op(api.OpAdd)
	}
	return wholes(1)
}

func (c turncoat) Rect(api.Rect) []api.Entry {
	c.Cell(api.Cell{})
	return nil
}

// R1: a source that changes the formula meanwhile makes no panic either.
func TestTurncoat(t *testing.T) {
	e := New(funcs.New(), 8, nil)
	for _, text := range []string{"=A1", "=A1+A2", "=SUM(A1:A2)", "=-A1%", "=IF(A1,A2,A3)", "=1+(2+A1)", "=SUM(A1:A2,A1)&A1"} {
		f := read(text)
		e.Work(f, turncoat{f.Nodes})
	}
}
