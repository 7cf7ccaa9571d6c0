package pull

import (
	"fmt"
	"math/rand"
	"slices"
	"testing"

	"oriel/addr"
	"oriel/api"
)

// grid is so many rows and columns of cells, in which texts are put at random. Of ten formulas so many refer to cells of any rows, the others to rows above them alone: among these is no ring.
type grid struct {
	*rand.Rand
	rows, cols, wild int
}

func (g grid) cell() api.Cell { return g.above(g.rows) }

// above is a cell of the first so many rows.
func (g grid) above(rows int) api.Cell { return cell(1+g.Intn(rows), 1+g.Intn(g.cols)) }

// name is the name of a cell of the first so many rows.
func (g grid) name(rows int) string { return addr.Name(g.above(rows)) }

// box is the name of a rectangle of the first so many rows.
func (g grid) box(rows int) string {
	c, d := g.above(rows), g.above(rows)
	return addr.NameRect(rect(min(c.Row, d.Row), min(c.Col, d.Col), max(c.Row, d.Row), max(c.Col, d.Col)))
}

// says is what a cell of a row may be put as: nothing, a literal, a formula over none, one, or more of the grid.
func (g grid) says(row int) string {
	rows := g.rows
	if g.Intn(10) >= g.wild {
		rows = max(1, row-1)
	}
	n, one, two := g.Intn(3), g.name(rows), g.name(rows)
	switch g.Intn(16) {
	case 0:
		return ""
	case 1, 2:
		return fmt.Sprint(n)
	case 3:
		return "word"
	case 4:
		return fmt.Sprintf("=%d", n)
	case 5, 6:
		return "=" + one
	case 7:
		return fmt.Sprintf("=%s+%s", one, two)
	case 8:
		return fmt.Sprintf("=%s>%d", one, n)
	case 9:
		return fmt.Sprintf("=SUM(%s)", g.box(rows))
	case 10:
		return fmt.Sprintf("=COUNTA(%s)+%s", g.box(rows), one)
	case 11:
		return fmt.Sprintf("=IFERR(%s,%s)", one, two)
	case 12:
		return fmt.Sprintf("=IF(%s,%s,%s)", one, two, g.name(rows))
	case 13:
		return fmt.Sprintf("=LEFT(%s&%s,%d)", one, two, n)
	case 14:
		return fmt.Sprintf("=ISERR(%s/%s)", one, two)
	}
	return fmt.Sprintf("=MAX(%s,%s)", g.box(rows), g.box(rows))
}

// sums are what rows of random calls came to, all together: if one of them is small, the rows asked too little.
type sums struct{ worked, kept, rings, leads, turns int }

// add counts what the last call came to.
func (s *sums) add(p *play, got api.Value, c api.Cell) {
	work := p.p.Work()
	s.worked += len(work.Log)
	s.kept += work.Pushed - len(work.Log)
	if got == ring && p.m.below(c)[c] {
		s.rings++
	} else if got == ring {
		s.leads++
	}
}

// enough fails the test, unless each of them is as great as that.
func (s sums) enough(t *testing.T, least sums) {
	t.Helper()
	if s.worked < least.worked || s.kept < least.kept || s.rings < least.rings || s.leads < least.leads || s.turns < least.turns {
		t.Errorf("the rows came to %+v; they should to %+v", s, least)
	}
}

// step is a random call: a put, a Get, a Range, or a Drop of what has no formula.
func (p *play) step(g grid, s *sums) {
	p.t.Helper()
	switch c := g.cell(); g.Intn(8) {
	case 0, 1, 2:
		p.put(addr.Name(c), g.says(c.Row))
	case 3:
		p.all(box(g.box(g.rows)))
	case 4:
		if !p.m.says[c].Is {
			p.p.Drop(c)
			p.check("Drop")
		}
	default:
		s.add(p, p.get(c), c)
	}
}

// P20.2 to P20.9: in a row of anything a sheet does, each call is as the chapter's words have it, and each value as if all had been worked out from the beginning.
func TestAnything(t *testing.T) {
	var s sums
	for seed := range int64(400) {
		g := grid{Rand: rand.New(rand.NewSource(seed)), rows: 1 + int(seed)%5, cols: 1 + int(seed/5)%4, wild: int(seed) % 4}
		p := newPlay(t, api.MaxStamp)
		for range 120 {
			p.step(g, &s)
		}
		p.all(whole())
	}
	s.enough(t, sums{worked: 2000, kept: 2000, rings: 500, leads: 200})
}

// P20.2 to P20.9: the same with a clock that has as few numbers as may be, and is numbered anew all the time.
func TestAnythingNumberedAnew(t *testing.T) {
	var s sums
	for seed := range int64(400) {
		g := grid{Rand: rand.New(rand.NewSource(seed)), rows: 1 + int(seed)%4, cols: 1 + int(seed/4)%4, wild: int(seed) % 4}
		p := newPlay(t, g.rows*g.cols+2)
		for range 120 {
			p.step(g, &s)
		}
		s.turns += p.k.Turns()
	}
	s.enough(t, sums{worked: 1000, kept: 1000, rings: 200, leads: 100, turns: 300})
}

// P20.2 to P20.9: the same with few formulas that are put, and many literals: values change, and go through what stands.
func TestValuesGoThrough(t *testing.T) {
	var s sums
	for seed := range int64(400) {
		g := grid{Rand: rand.New(rand.NewSource(seed)), rows: 4, cols: 4, wild: int(seed) % 3}
		p := newPlay(t, 18)
		for range 16 {
			c := g.cell()
			p.put(addr.Name(c), g.says(c.Row))
		}
		for range 120 {
			if c := g.cell(); g.Intn(3) == 0 && !p.m.says[c].Is {
				p.put(addr.Name(c), fmt.Sprint(g.Intn(3)))
			} else if g.Intn(4) > 0 {
				s.add(p, p.get(c), c)
			} else {
				p.all(box(g.box(g.rows)))
			}
		}
		s.turns += p.k.Turns()
	}
	s.enough(t, sums{worked: 1000, kept: 1000, rings: 100, leads: 100, turns: 30})
}

// three are the cells of the small graphs.
func three() []string { return []string{"A1", "B1", "C1"} }

// sumOf is a formula that refers to those of the three cells whose bits are set, besides to a literal.
func sumOf(bits int) string {
	says := "=A2"
	for i, name := range three() {
		if bits>>i&1 == 1 {
			says += "+" + name
		}
	}
	return says
}

// P20.2 to P20.9: all graphs of three cells, each cell got first, then the others; then with the literal put otherwise, and one cell put as another one.
func TestAllOfThree(t *testing.T) {
	for graph := range 512 {
		p := newPlay(t, 20)
		p.put("A2", "1")
		for i, name := range three() {
			p.put(name, sumOf(graph>>(3*i)))
		}
		first := graph % 3
		for turn := range 3 {
			p.get(at(three()[(first+turn)%3]))
		}
		p.put("A2", "2")
		p.get(at(three()[graph/3%3]))
		for i, name := range three() {
			p.put(name, "=A2")
			p.get(at(three()[(first+i)%3]))
			p.put(name, sumOf(graph>>(3*i)))
			p.get(at(three()[(first+2*i)%3]))
		}
		p.all(whole())
	}
}

// P20.2: a Get that is asked again, with nothing put between, works nothing out, and puts one cell on the stack; so does each Get of a precedent.
func TestGetAgain(t *testing.T) {
	for seed := range int64(60) {
		g := grid{Rand: rand.New(rand.NewSource(seed)), rows: 4, cols: 3, wild: int(seed) % 4}
		p := newPlay(t, 100)
		for range 25 {
			c := g.cell()
			p.put(addr.Name(c), g.says(c.Row))
			c = g.cell()
			p.get(c)
			for below := range p.m.below(c) {
				if p.get(below); p.m.says[below].Is {
					p.did(1, 1)
				} else {
					p.did(0, 0)
				}
			}
		}
	}
}

// P20.6: what is told does not hang on what was got ahead, nor in which order contents were put: only what they say counts.
func TestOrderOfNothing(t *testing.T) {
	for seed := range int64(40) {
		g := grid{Rand: rand.New(rand.NewSource(seed)), rows: 3, cols: 3, wild: int(seed) % 4}
		texts := map[string]string{}
		for range 9 {
			c := g.cell()
			if says := g.says(c.Row); says != "" {
				texts[addr.Name(c)] = says
			}
		}
		var names []string
		for name := range texts {
			names = append(names, name)
		}
		slices.Sort(names)
		var want []api.Entry
		for turn := range int64(4) {
			p := newPlay(t, 100)
			for _, name := range mixed(turn, names) {
				p.put(name, g.says(g.rows))
				p.get(g.cell())
				p.put(name, texts[name])
				if g.Intn(2) == 0 {
					p.get(g.cell())
				}
			}
			got := p.all(whole())
			if turn == 0 {
				want = got
			}
			if !slices.Equal(got, want) {
				t.Fatalf("seed %d: %s; another time %s", seed, brief(got), brief(want))
			}
		}
	}
}

// P20.8: a put of a literal as it was works out its direct dependents alone, of as many cells as there are.
func TestCutOff(t *testing.T) {
	p := newPlay(t, 200)
	p.puts("A1 1", "B1 1")
	for row := 2; row <= 20; row++ {
		p.put(a(row), fmt.Sprintf("=A%d+B1", row-1))
		p.put(c(row), fmt.Sprintf("=SUM(A1:A%d)", row))
	}
	p.all(whole())
	p.puts("A1 1")
	p.all(whole())
	p.did(38, 1, append([]string{"A2"}, rows(2, 20, c)...)...)
	p.puts("B1 1")
	p.gets("C20", 210, 20, 2, rows(2, 20, a)...)
	p.puts("A9 =A8+B1")
	p.get(at("C20"))
	p.did(13, 2, "A9", "A10", "C20") // what was put anew counts as changed
}

// c is the name of the cell of column C at a row.
func c(row int) string { return addr.Name(cell(row, 3)) }

// rows are the names of a column's cells, from one row to another.
func rows(from, to int, name func(int) string) []string {
	var names []string
	for row := from; row <= to; row++ {
		names = append(names, name(row))
	}
	return names
}
