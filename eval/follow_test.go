package eval

import (
	"math/rand"
	"slices"
	"strings"
	"sync"
	"testing"
	"unsafe"

	"oriel/api"
	"oriel/funcs"
	"oriel/refs"
)

// far is a cell to which no formula by chance refers.
var far = api.Cell{Row: 99, Col: 99}

// answers is a host with values of every kind, also such as may not be.
func answers() host {
	set := append(values(), wrongValues()[:6]...)
	return host{answer: func(n int64) api.Value { return set[uint64(n)%uint64(len(set))] }}
}

// spans are where the parts of a formula begin and end that leave one value: all but rectangles.
func spans(nodes []api.Node) [][2]int {
	var list [][2]int
	for end, n := range nodes {
		if n.Kind == api.NodeRect {
			continue
		}
		_, rest := apart(nodes[:end+1])
		list = append(list, [2]int{len(rest), end + 1})
	}
	return list
}

// P12.3: a part of a formula may be taken out, and what it answers be put there as a cell: what the whole answers is the same.
func TestByParts(t *testing.T) {
	rnd, table := rand.New(rand.NewSource(123)), funcs.New()
	for range 4000 {
		nodes, g := random(rnd, 1+rnd.Intn(6)), mixed(rnd)
		e := New(table, []int{1, 4, 8, 1024}[rnd.Intn(4)], answers())
		whole := e.Work(formula(nodes...), g)
		for _, at := range spans(nodes) {
			part := e.Work(formula(nodes[at[0]:at[1]]...), g)
			g.has[far] = part
			other := slices.Replace(slices.Clone(nodes), at[0], at[1], cell(far.Row, far.Col))
			if v := e.Work(formula(other...), g); v != whole {
				t.Fatalf("%s = %s; with %s = %s put there: %s", shown(nodes), brief(whole), shown(nodes[at[0]:at[1]]), brief(part), brief(v))
			}
			delete(g.has, far)
		}
	}
}

// P12.3: an operation answers the same of a value that stands in the formula, in a cell, is chosen or is answered by the host.
func TestWherever(t *testing.T) {
	table := funcs.New()
	for _, a := range values() {
		for _, b := range []any{1, "x", true, api.CodeMiss, nil} {
			if refs.Check(formula(val(a))) != api.OK || len(a.Str) > 8 {
				continue
			}
			e, s := New(table, 8, always(a)), column(a, b)
			for n := api.OpMul; n <= api.OpGe; n++ {
				want := e.Work(formula(cell(1, 1), cell(2, 1), op(n)), s)
				works(t, want, e, s, val(a), cell(2, 1), op(n))
				works(t, want, e, s, val(1), fn("ASK", 1), cell(2, 1), op(n))
				works(t, want, e, s, val(true), cell(1, 1), fn("IF", 2), cell(2, 1), op(n))
				works(t, want, e, s, rect(1, 1, 2, 1), val(1), val(1), fn("INDEX", 3), cell(2, 1), op(n))
			}
		}
	}
}

// longest is how many bytes the longest Text of a source has.
func longest(g grid) int {
	most := 0
	for _, v := range g.has {
		most = max(most, len(v.Str))
	}
	return most
}

// P12.4: what is answered may be; it is no CodeCycle, unless the source told one; a Text is short, or one of the source is as long.
func TestShort(t *testing.T) {
	rnd, table := rand.New(rand.NewSource(124)), funcs.New()
	long, cycles := 0, 0
	for range 20000 {
		nodes, g, most := random(rnd, rnd.Intn(7)), mixed(rnd), []int{1, 2, 4, 8, 1024}[rnd.Intn(5)]
		told := false
		for c, v := range g.has {
			if v == fault(api.CodeCycle) && rnd.Intn(2) == 0 {
				delete(g.has, c)
			} else if v == fault(api.CodeCycle) {
				told = true
			}
		}
		v := New(table, most, answers()).Work(formula(nodes...), g)
		switch {
		case !modelMay(v):
			t.Fatalf("%s = %s", shown(nodes), brief(v))
		case v == fault(api.CodeCycle):
			cycles++
			if !told {
				t.Fatalf("%s is CodeCycle", shown(nodes))
			}
		case len(v.Str) > most:
			long++
			if len(v.Str) > longest(g) {
				t.Fatalf("%s has %d bytes", shown(nodes), len(v.Str))
			}
		}
	}
	if long < 30 || cycles < 20 {
		t.Errorf("%d were long, %d CodeCycle", long, cycles)
	}
}

// P12.4: CodeCycle goes through where the source told it, and comes from nowhere else.
func TestCycle(t *testing.T) {
	cycle := api.CodeCycle
	s := column(cycle, 1, api.CodeDiv)
	checks(t, 8, always(fault(cycle)), s, []check{
		{"=A1", cycle}, {"=-A1", cycle}, {"=A1%", cycle}, {"=A1+A3", cycle}, {"=A3+A1", api.CodeDiv}, {"=A2&A1", cycle}, {"=A1=A1", cycle}, {"=SUM(A1:A2)", cycle}, {"=SUM(A2,A1)", cycle}, {"=ABS(A1)", cycle}, {"=IF(TRUE,A1)", cycle}, {"=INDEX(A1:A3,1,1)", cycle}, {"=ASK(A1)", cycle},
		{"=IFERR(A1,7)", 7}, {"=ISERR(A1)", true}, {"=ERRNO(A1)", 1}, {"=COUNT(A1:A3)", 1}, {"=IF(FALSE,A1,5)", 5}, {"=ERR(1)", api.CodeArg}, {"=ERR(ERRNO(A1))", api.CodeArg}, {"=ASK(1)", api.CodeArg}, {"=IFERR(ASK(1),A1)", cycle},
	})
}

// fenced is a source that tells only what it may be asked for.
type fenced struct {
	grid
	may []api.Ref
}

func (f fenced) Cell(c api.Cell) api.Value {
	if !slices.Contains(f.may, api.Ref{Rect: api.Rect{Top: c.Row, Left: c.Col, Bottom: c.Row, Right: c.Col}}) {
		panic("another cell")
	}
	return f.grid.Cell(c)
}

func (f fenced) Rect(r api.Rect) []api.Entry {
	if !slices.Contains(f.may, api.Ref{Many: true, Rect: r}) {
		panic("another rectangle")
	}
	return f.grid.Rect(r)
}

// P12.5: of two sources that tell the same of a formula's references, and otherwise of other cells: the same answer.
func TestTheSame(t *testing.T) {
	rnd, table := rand.New(rand.NewSource(125)), funcs.New()
	for range 10000 {
		f, one, two := formula(random(rnd, rnd.Intn(7))...), mixed(rnd), mixed(rnd)
		list := refs.Of(f)
		for row := range 20 {
			for col := range 5 {
				c := api.Cell{Row: row, Col: col}
				if slices.ContainsFunc(list, func(r api.Ref) bool {
					return row >= r.Rect.Top && row <= r.Rect.Bottom && col >= r.Rect.Left && col <= r.Rect.Right
				}) {
					delete(two.has, c)
					if v, is := one.has[c]; is {
						two.has[c] = v
					}
				}
			}
		}
		two.has[far] = wholes(int64(rnd.Intn(100)))
		e := New(table, 8, answers())
		want := e.Work(f, one)
		for i, s := range []Source{one, two, fenced{two, list}} {
			if v := e.Work(f, s); v != want {
				t.Fatalf("%s = %s; of the source %d: %s", shown(f.Nodes), brief(want), i, brief(v))
			}
		}
	}
}

// room is a source that tells each rectangle in the same room.
type room struct {
	grid
	list []api.Entry
}

func (r *room) Rect(at api.Rect) []api.Entry {
	clear(r.list[:cap(r.list)])
	r.list = append(r.list[:0], r.grid.Rect(at)...)
	return r.list
}

// P12.5: what a source told stays so, though it tells the next rectangle in the same room.
func TestSameRoom(t *testing.T) {
	rnd, table := rand.New(rand.NewSource(126)), funcs.New()
	checks(t, 8, nil, &room{grid: sample()}, []check{{"=SUM(B1:B3,A1:A2)", 8}, {"=SUM(A1:A2,B1:B3)", 8}, {`=LOOKUP("ab",A1:A3,B1:B3)`, 2}, {"=SUMIF(A1:A3,2,B1:B3)", 1}, {`=JOIN("",A1:A2,B1:B2,A1:A2)`, "2ab122ab"}})
	for range 5000 {
		f, g := formula(random(rnd, rnd.Intn(6))...), mixed(rnd)
		e := New(table, 8, answers())
		if v, want := e.Work(f, &room{grid: g}), e.Work(f, g); v != want {
			t.Fatalf("%s = %s; want %s", shown(f.Nodes), brief(v), brief(want))
		}
	}
}

// kept is a source that tells what it keeps, with spare room behind it.
type kept struct{ list []api.Entry }

func (k kept) Cell(api.Cell) api.Value { return k.list[0].Value }

func (k kept) Rect(api.Rect) []api.Entry { return k.list[:3] }

// R4: the formula that is handed in is as it was, and so is what the source told, with the spare room of both.
func TestHandedIn(t *testing.T) {
	rnd, table := rand.New(rand.NewSource(127)), funcs.New()
	entries := func() []api.Entry {
		var list []api.Entry
		for i, x := range []any{3, "b", 1, 9, "spare"} {
			list = append(list, api.Entry{Cell: api.Cell{Row: i + 1, Col: 1}, Value: wanted(x)})
		}
		return list
	}
	k := kept{entries()}
	spare := times(20, api.Node{Kind: 99, Name: "spare", Args: 7})
	for range 3000 {
		nodes := random(rnd, rnd.Intn(7))
		for i := range nodes {
			if nodes[i].Kind == api.NodeRect {
				nodes[i] = rect(1, 1, 3, 1)
			}
		}
		all := slices.Concat(nodes, spare)
		New(table, 8, answers()).Work(api.Formula{Nodes: all[:len(nodes)]}, k)
		if !slices.Equal(all, slices.Concat(nodes, spare)) {
			t.Fatalf("%s was changed", shown(nodes))
		}
	}
	for _, text := range []string{"=SUM(A1:A3)", "=MEDIAN(A1:A3)", "=LARGE(A1:A3,1)", `=JOIN("-",A1:A3,A1:A3)`, "=INDEX(A1:A3,2,1)", "=MATCH(1,A1:A3)"} {
		New(table, 8, nil).Work(read(text), k)
	}
	if !slices.Equal(k.list, entries()) {
		t.Error("what the source told was changed")
	}
}

// R4: a text that is answered is new memory: it shares no byte with the formula, with what the source told, or the host answered.
func TestNewMemory(t *testing.T) {
	s := strings.Repeat("AB", 300)
	e, from := New(funcs.New(), 1024, always(text(s))), column(s, "")
	for _, nodes := range [][]api.Node{
		{val(s)}, {cell(1, 1)}, {val(1), fn("ASK", 1)}, {val(s), val(""), op(api.OpCat)}, {val(""), val(s), op(api.OpCat)}, {cell(1, 1), cell(2, 1), op(api.OpCat)}, {cell(2, 1), cell(1, 1), op(api.OpCat)},
		{val(true), val(s), fn("IF", 2)}, {rect(1, 1, 2, 1), val(1), val(1), fn("INDEX", 3)}, {cell(1, 1), fn("UPPER", 1)},
	} {
		v := e.Work(formula(nodes...), from)
		if v != text(s) {
			t.Errorf("%s = %s", shown(nodes), brief(v))
		}
		start := func(s string) uintptr { return uintptr(unsafe.Pointer(unsafe.StringData(s))) }
		if at := start(v.Str); at >= start(s) && at < start(s)+uintptr(len(s)) {
			t.Errorf("%s: the answer is a piece of what was told", shown(nodes))
		}
	}
}

// R5: one is used again, for several formulas and sources, and answers as a new one; no capacity is seen.
func TestAgain(t *testing.T) {
	rnd, table := rand.New(rand.NewSource(128)), funcs.New()
	one, two := New(table, 8, answers()), New(table, 8, answers())
	for range 5000 {
		nodes, g := random(rnd, rnd.Intn(7)), mixed(rnd)
		roomy := append(make([]api.Node, 0, 200), nodes...)
		want := New(funcs.New(), 8, answers()).Work(formula(nodes...), g)
		for i, e := range []*Eval{one, two, one, two} {
			e.Work(formula(nodes[:len(nodes)/2]...), g)
			if v := e.Work(formula(roomy...), g); v != want {
				t.Fatalf("%s = %s, the time %d %s", shown(nodes), brief(want), i, brief(v))
			}
		}
	}
}

// deep is a source whose cells have formulas, which it works out by the same Eval while that works.
type deep struct {
	e     *Eval
	texts map[api.Cell]string
}

func (d deep) Cell(c api.Cell) api.Value {
	if s, is := d.texts[c]; is {
		return d.e.Work(read(s), d)
	}
	return api.Value{}
}

func (d deep) Rect(r api.Rect) []api.Entry {
	var list []api.Entry
	for row := r.Top; row <= r.Bottom; row++ {
		if c := (api.Cell{Row: row, Col: r.Left}); d.texts[c] != "" {
			list = append(list, api.Entry{Cell: c, Value: d.Cell(c)})
		}
	}
	return list
}

// R5: a source or a host may ask the same Eval while it works: what it has so far stays.
func TestWithin(t *testing.T) {
	var e *Eval
	e = New(funcs.New(), 8, host{answer: func(n int64) api.Value {
		if n <= 0 {
			return wholes(1)
		}
		return e.Work(read("=2*ASK(0)+1"), column())
	}})
	d := deep{e, map[api.Cell]string{{Row: 1, Col: 1}: "=1+2*3", {Row: 2, Col: 1}: "=A1*2-SUM(A1,1)", {Row: 3, Col: 1}: "=SUM(A1:A2)&MAX(A1,A2)", {Row: 4, Col: 1}: `=IF(A1>A2,A3,"no")&ASK(A2)`}}
	for text, want := range map[string]any{"=A1": 7, "=A2": 6, "=A3": "137", "=A4": "1373", "=10-(A1-(A2-A1))": 2, "=SUM(A1:A3,A2)": 19, "=ASK(1)+10*ASK(1)+A1": 40, "=A4&A4": "13731373"} {
		if v := e.Work(read(text), d); v != wanted(want) {
			t.Errorf("%s = %s; want %s", text, brief(v), brief(wanted(want)))
		}
	}
}

// Two and more share one table, also side by side: each has its own answers.
func TestSideBySide(t *testing.T) {
	rnd, table := rand.New(rand.NewSource(129)), funcs.New()
	var formulas []api.Formula
	for range 300 {
		formulas = append(formulas, formula(random(rnd, rnd.Intn(7))...))
	}
	g := mixed(rnd)
	var done sync.WaitGroup
	for from := range 8 {
		done.Go(func() {
			most := 1 + from%3*4
			e := New(table, most, answers())
			for i := range formulas {
				f := formulas[(i*7+from)%len(formulas)]
				want := model{table: funcs.New(), most: most, host: answers(), from: g}.work(f)
				if v := e.Work(f, g); v != want {
					t.Errorf("%s = %s; want %s", shown(f.Nodes), brief(v), brief(want))
				}
			}
		})
	}
	done.Wait()
}
