package pull

import (
	"fmt"
	"strconv"
	"strings"
	"testing"

	"oriel/addr"
	"oriel/api"
	"oriel/content"
)

// P20.2, 1., P20.6: a cell that refers to itself, by itself or in a rectangle, in a branch that is not taken, where it is not looked at, or where a fault is caught, has the fault of a ring; it is not worked out.
func TestSelf(t *testing.T) {
	for _, says := range []string{
		"=B2", "=B2+1", "=IF(FALSE,B2,1)", "=IFERR(B2,7)", "=ISERR(B2)", "=IFERR(7,B2)", "=1/0+B2", "=CHOOSE(1,5,B2)",
		"=SUM(B2:B2)", "=SUM(A1:C3)", "=SUM(A1:B2)", "=SUM(B2:C3)", "=ROWS(B1:B3)", "=COLS(A2:IV2)", "=COUNTA(A1:IV4096)", "=A1+SUM(A2:B3)",
	} {
		p := newPlay(t, 100)
		p.puts("A1 1", "B2 "+says)
		for range 2 {
			p.gets("B2", api.CodeCycle, 1, 1)
		}
		p.puts("A1 2", "B2 "+says)
		p.gets("B2", api.CodeCycle, 1, 1)
		p.puts("B2 =A1+1")
		p.gets("B2", 3, 1, 1, "B2")
		p.puts("B2 " + says)
		p.gets("B2", api.CodeCycle, 1, 1)
		p.puts("B2 4")
		p.gets("B2", 4, 0, 0)
	}
}

// ringOf puts a ring of so many cells in column A: each refers to the next one, the last one to the first.
func (p *play) ringOf(count int) {
	p.t.Helper()
	for row := 1; row < count; row++ {
		p.put(a(row), "="+a(row+1))
	}
	p.put(a(count), "=A1")
}

// P20.2, 1., P20.6: a ring of two, of many, got at each of its cells: all have the fault behind it, none is worked out; where it is broken, all have what stands there.
func TestRings(t *testing.T) {
	for count := 2; count <= 7; count++ {
		for first := 1; first <= count; first++ {
			p := newPlay(t, 100)
			p.ringOf(count)
			p.gets(a(first), api.CodeCycle, count, count)
			for row := 1; row <= count; row++ {
				p.gets(a(row), api.CodeCycle, 1, 1)
			}
			for broken := 1; broken <= count; broken++ {
				p.put(a(broken), "5")
				p.get(at(a(first)))
				p.all(whole())
				p.ringOf(count)
				p.get(at(a(first)))
				p.all(whole())
			}
		}
	}
}

// P20.6: two rings that share a cell, or more of them, or lead from one to the other, got at each of their cells.
func TestSharedRings(t *testing.T) {
	for _, rows := range [][]string{
		{"A1 =B1+C1", "B1 =A1", "C1 =A1"},
		{"A1 =B1", "B1 =C1+D1", "C1 =A1", "D1 =E1", "E1 =B1"},
		{"A1 =B1", "B1 =C1", "C1 =B1+D1", "D1 =A1+B1"},
		{"A1 =B1+C1", "B1 =C1+A1", "C1 =A1+B1"},
		{"A1 =SUM(A2:A3)", "A2 =A1", "A3 =A1"},
		{"A1 =B1", "B1 =A1+C1", "C1 =D1", "D1 =C1"},
		{"A1 =B1", "B1 =A1", "C1 =D1+A1", "D1 =C1", "E1 =D1+B1"},
		{"A1 =A1+B1", "B1 =A1+B1"},
		{"A1 =B1", "B1 =C1+A1", "C1 =E1+B1", "D1 =E1", "E1 =D1+C1+7"},
	} {
		for _, first := range rows {
			name, _, _ := strings.Cut(first, " ")
			p := newPlay(t, 100)
			p.puts(rows...)
			p.get(at(name))
			p.all(whole())
			if got := p.get(at("A1")); got != ring {
				t.Errorf("%v: A1 is %v", rows, got)
			}
			if n := len(p.w.handed); n != 0 {
				t.Errorf("%v: %d are worked out", rows, n)
			}
		}
	}
}

// P20.2, 1., P20.6: rings that go through rectangles: what else is in these is on no ring.
func TestRingsThroughRectangles(t *testing.T) {
	p := newPlay(t, 100)
	p.puts("A1 =SUM(B1:C9)", "B1 =7", "C2 =B1", "B3 =A1", "C3 =B1+1", "C9 =C3")
	p.gets("A1", api.CodeCycle, 6, 2, "B1", "C2", "C3", "C9")
	p.has(whole(), "A1", api.CodeCycle, "B1", 7, "C2", 7, "B3", api.CodeCycle, "C3", 8, "C9", 8)
	p.puts("B3 1")
	p.gets("A1", 31, 1, 1, "A1")
	p.puts("C9 =SUM(A1:A9)")
	p.gets("C9", api.CodeCycle, 2, 2)
	p.has(box("A1:C2"), "A1", api.CodeCycle, "B1", 7, "C2", 7)
	p.did(3, 1)
	p.puts("A1 =SUM(B1:C8)")
	p.gets("C9", 23, 2, 2, "A1", "C9")
}

// P20.6: a cell that leads to a ring has its fault, whatever its formula says: nothing catches it, and it is not worked out; who leads to that one has it too.
func TestLeadsToRing(t *testing.T) {
	for _, says := range []string{
		"=A1", "=IFERR(A1,7)", "=ISERR(A1)", "=IF(TRUE,1,A1)", "=IF(FALSE,A1)", "=COUNTA(A1:A1)", "=COUNTA(A1:B9)", "=ERRNO(A1)", "=TYPE(A1)",
		"=ROWS(A1:A9)", "=1/0+A1", "=CHOOSE(1,2,A1)", "=A9+B1", "=SUM(A9:A9,B1:B1)", "=IFERR(IFERR(B1,1),2)",
	} {
		p := newPlay(t, 100)
		p.puts("A1 =B1", "B1 =A1", "C5 "+says, "D5 =IFERR(C5,1)", "E5 =COUNTA(D5:D5)")
		p.gets("E5", api.CodeCycle, 5, 5)
		for _, name := range []string{"A1", "B1", "C5", "D5", "E5"} {
			p.gets(name, api.CodeCycle, 1, 1)
		}
	}
}

// P20.2, 1.: which of the cells that are referred to directly has the fault makes no difference, nor whether it had it ahead.
func TestWhichLeads(t *testing.T) {
	for _, says := range []string{"=A1+B1+C1", "=SUM(A1:C1)", "=B1+SUM(A1:C1)", "=SUM(A1:B1)+C1"} {
		for _, name := range []string{"A1", "B1", "C1"} {
			for _, ahead := range []bool{false, true} {
				p := newPlay(t, 100)
				p.puts("A1 =1", "B1 =2", "C1 =3", "D1 "+says, name+" ="+name)
				if ahead {
					p.get(at(name))
				}
				if got := p.get(at("D1")); got != ring {
					t.Errorf("%s with a ring at %s: %v", says, name, got)
				}
				p.put(name, "4")
				p.get(at("D1"))
			}
		}
	}
}

// P20.2, 1.: a literal that has the fault of a ring leads to it as well. (No text says that: such a content was read out of none.)
func TestLiteralRing(t *testing.T) {
	x := newSheet(t, 20, newPlain())
	x.set(at("A2"), "=IFERR(A1,7)")
	x.set(at("A3"), "=COUNTA(A1:A2)")
	x.s.Put(at("A1"), &content.Content{Value: ring})
	x.gets(at("A3"), api.CodeCycle, 0, 2, 2)
	x.gets(at("A1"), api.CodeCycle, 0, 0, 0)
	x.set(at("A1"), "1")
	x.gets(at("A3"), 2, 2, 2, 2)
}

// P20.2, 2.: of the cells to which one refers only those with formulas may be newer: what stamps a literal's cell has, or an empty one's, makes no difference.
func TestLiteralStamps(t *testing.T) {
	x := newSheet(t, 20, newPlain())
	x.set(at("A1"), "1")
	x.set(at("B1"), "2")
	x.set(at("A2"), "=B1")
	x.set(at("A3"), "=A2+A1+SUM(A1:A2)+A7")
	x.gets(at("A3"), 6, 2, 2, 2)
	x.k.Change(at("A1"))
	x.k.Change(at("A7"))
	x.set(at("B1"), "2")
	x.gets(at("A3"), 6, 1, 2, 2)
}

// P20.6: a fault that is none of a ring is a value as others: it is worked with, and caught.
func TestOtherFaults(t *testing.T) {
	p := newPlay(t, 100)
	p.puts("A1 =1/0", "A2 =A1+1", "A3 =IFERR(A2,7)", "A4 =ERRNO(A2)", "A5 =ERR(8)", "A6 =ISERR(A5)")
	p.has(whole(), "A1", api.CodeDiv, "A2", api.CodeDiv, "A3", 7, "A4", int(api.CodeDiv), "A5", api.CodeArg, "A6", true)
	p.did(9-3, 1, "A1", "A2", "A3", "A4", "A5", "A6")
}

// P20.7: also where there is a ring, all below that is on none is worked out, and Clean; what a ring's cells refer to behind the ring, too.
func TestBelowRings(t *testing.T) {
	p := newPlay(t, 100)
	p.puts("A1 =B1+C1", "B1 =A1+D1", "C1 =2", "D1 =E1+1", "E1 =3", "F1 =A1+G1", "G1 =SUM(C1:E1)")
	p.gets("F1", api.CodeCycle, 7, 5, "E1", "D1", "C1", "G1")
	p.has(whole(), "A1", api.CodeCycle, "B1", api.CodeCycle, "C1", 2, "D1", 4, "E1", 3, "F1", api.CodeCycle, "G1", 9)
	p.did(7, 1)
	p.puts("E1 =5")
	p.gets("A1", api.CodeCycle, 4, 4, "E1", "D1")
	p.gets("F1", api.CodeCycle, 2, 2, "G1")
}

// leads fails the test, unless a Get tells the fault of a ring, and none is worked out for it.
func (p *play) leads(name string) {
	p.t.Helper()
	if got := p.get(at(name)); got != ring || len(p.w.handed) != 0 {
		p.t.Fatalf("Get(%s) = %s; %d are worked out", name, brief(got), len(p.w.handed))
	}
}

// P20.2, P20.6: a value that becomes the fault of a ring, and is it no longer: who leads there is worked out then, though the value is what it was before.
func TestComesAndGoes(t *testing.T) {
	p := newPlay(t, 100)
	p.puts("B1 1", "A1 =B1", "C1 =IFERR(A1,7)", "D1 =C1", "E1 =A1")
	p.gets("D1", 1, 3, 3, "A1", "C1", "D1")
	p.gets("E1", 1, 1, 1, "E1")
	for _, says := range []string{"=C1", "=D1", "=A1", "=SUM(A1:D1)", "=B1"} {
		p.puts("B1 " + says)
		p.leads("D1")
		p.puts("B1 1")
		p.gets("D1", 1, 3, 3, "A1", "C1", "D1")
		p.gets("E1", 1, 1, 1, "E1")
		p.puts("B1 " + says)
		p.leads("E1")
		p.puts("B1 1")
		p.gets("E1", 1, 2, 2, "A1", "E1")
		p.get(at("D1"))
	}
}

// P20.2: a ring that nobody looks at between, and one that is put as it was: nobody is worked out for it, or all keep the fault.
func TestRingUnseen(t *testing.T) {
	p := newPlay(t, 100)
	p.puts("A1 1", "B1 =A1", "C1 =B1")
	p.gets("C1", 1, 2, 2, "B1", "C1")
	p.puts("A1 =C1", "A1 1")
	p.gets("C1", 1, 2, 2, "B1")
	p.puts("A1 =C1")
	p.gets("C1", api.CodeCycle, 3, 3)
	p.puts("A1 1", "A1 =C1")
	p.gets("C1", api.CodeCycle, 3, 3)
	p.puts("A1 1", "A1 =B1")
	p.gets("C1", api.CodeCycle, 3, 3)
	p.puts("A1 2")
	p.gets("C1", 2, 2, 2, "B1", "C1")
}

// P20.2, 3., P20.8: in a chain, at each height a value may be worked out anew and stay the same: nothing above it is worked out.
func TestSameAtHeight(t *testing.T) {
	const top = 9
	for height := 2; height <= top; height++ {
		p := newPlay(t, 100)
		p.put("A1", "1")
		var below []string
		for row := 2; row <= top; row++ {
			says := "=" + a(row-1) + "+1"
			if row == height {
				says = "=" + a(row-1) + ">0"
			}
			p.put(a(row), says)
			if row <= height {
				below = append(below, a(row))
			}
		}
		p.get(at(a(top)))
		for look := height; look <= top; look++ {
			p.put("A1", strconv.Itoa(look))
			p.get(at(a(look)))
			p.did(look-1, look-1, below...)
			p.get(at(a(top)))
			p.did(max(1, top-look), max(1, top-look))
		}
	}
}

// P20.2, 2.: a value that changes twice between two Gets, and is what it was: if somebody got it between, who has looked before is worked out; else not.
func TestChangesTwice(t *testing.T) {
	p := newPlay(t, 100)
	p.puts("A1 1", "A2 =A1", "A3 =A2", "A4 =A3")
	p.get(at("A4"))
	p.puts("A1 2", "A1 1")
	p.gets("A4", 1, 3, 3, "A2")
	p.puts("A1 2")
	p.gets("A2", 2, 1, 1, "A2")
	p.puts("A1 1")
	p.gets("A2", 1, 1, 1, "A2")
	p.gets("A4", 1, 2, 2, "A3")
	p.puts("A1 2")
	p.gets("A3", 2, 2, 2, "A2", "A3")
	p.puts("A1 1")
	p.gets("A3", 1, 2, 2, "A2", "A3")
	p.gets("A4", 1, 1, 1, "A4")
	p.puts("A1 2")
	p.gets("A2", 2, 1, 1, "A2")
	p.puts("A1 1")
	p.gets("A4", 1, 3, 3, "A2", "A3")
}

// P20.2: of diamonds, each cell is worked out once, when both below it are.
func TestDiamonds(t *testing.T) {
	p := newPlay(t, 100)
	p.put("A1", "1")
	p.put("B1", "0")
	var log []string
	for row := 2; row <= 12; row++ {
		p.put(a(row), fmt.Sprintf("=A%d+B%d", row-1, row-1))
		p.put(addr.Name(cell(row, 2)), fmt.Sprintf("=A%d-B%d", row-1, row-1))
		log = append(log, a(row), addr.Name(cell(row, 2)))
	}
	p.gets("A12", 32, 21, 11, log[:21]...)
	p.gets("B12", 32, 1, 1, "B12")
	p.puts("B1 0")
	p.gets("A12", 32, 21, 11, "A2", "B2")
	p.puts("B1 1")
	p.get(at("A12"))
	p.did(21, 11, log[:21]...)
}

// wide is a sheet with as many cells with contents as may be: chains, stars, rings are put there.
func wide(t *testing.T, most int, says func(row int) string) *sheet {
	t.Helper()
	x := newSheet(t, most, newPlain())
	for row := 1; row <= 4096; row++ {
		x.set(cell(row, 1), says(row))
	}
	return x
}

// gets fails the test, unless a Get tells that, and Work behind it so many worked out, pushed, and on the stack.
func (x *sheet) gets(c api.Cell, want any, worked, pushed, pulls int) {
	x.t.Helper()
	got, work := x.p.Get(c), x.p.Work()
	if got != wanted(want) || len(work.Log) != worked || work.Pushed != pushed || work.Pulls != pulls {
		x.t.Fatalf("Get(%v) = %s, %d worked out, %d pushed, %d on the stack; want %v, %d, %d, %d", c, brief(got), len(work.Log), work.Pushed, work.Pulls, want, worked, pushed, pulls)
	}
}

// P20.2, P20.9: a chain as long as cells may have contents, got at its top, at its foot, row by row, and again when its foot was put.
func TestLongChain(t *testing.T) {
	x := wide(t, 4098, func(row int) string {
		if row == 1 {
			return "1"
		}
		return fmt.Sprintf("=A%d+1", row-1)
	})
	x.gets(cell(4096, 1), 4096, 4095, 4095, 4095)
	x.gets(cell(4096, 1), 4096, 0, 1, 1)
	x.set(cell(1, 1), "2")
	x.gets(cell(2, 1), 3, 1, 1, 1)
	x.gets(cell(4096, 1), 4097, 4094, 4094, 4094)
	x.set(cell(1, 1), "2")
	x.gets(cell(4096, 1), 4097, 1, 4095, 4095)
	x.set(cell(2000, 1), "0")
	if list := x.p.Range(whole()); len(list) != 4096 || list[4095].Value != wanted(2096) {
		t.Errorf("%d entries", len(list))
	}
	if work := x.p.Work(); len(work.Log) != 2096 || work.Pushed != 4094 || work.Pulls != 1 {
		t.Errorf("%d worked out, %d pushed, %d on the stack", len(work.Log), work.Pushed, work.Pulls)
	}
}

// P20.2, P20.9: a ring of as many cells as may have contents; it comes and goes.
func TestLongRing(t *testing.T) {
	x := wide(t, api.MaxStamp, func(row int) string { return fmt.Sprintf("=A%d+1", row%4096+1) })
	x.gets(cell(17, 1), api.CodeCycle, 0, 4096, 4096)
	x.gets(cell(4096, 1), api.CodeCycle, 0, 1, 1)
	x.set(cell(4096, 1), "1")
	x.gets(cell(1, 1), 4096, 4095, 4095, 4095)
	x.set(cell(4096, 1), "=A1")
	x.gets(cell(4095, 1), api.CodeCycle, 0, 4096, 4096)
}

// P20.2, P20.4: a star: one cell refers to all others, in one rectangle.
func TestStar(t *testing.T) {
	x := wide(t, api.MaxStamp, func(row int) string {
		if row == 1 {
			return "=SUM(A2:A4096)"
		}
		return "=1"
	})
	x.gets(cell(1, 1), 4095, 4096, 4096, 2)
	x.set(cell(4096, 1), "=2")
	x.gets(cell(1, 1), 4096, 2, 2, 2)
	x.set(cell(4096, 1), "=A1")
	x.gets(cell(2, 1), 1, 0, 1, 1)
	x.gets(cell(4096, 1), api.CodeCycle, 0, 2, 2)
}

// P20.2: cells each of which refers to all above it, in rectangles and one by one.
func TestTriangle(t *testing.T) {
	x := newSheet(t, api.MaxStamp, newPlain())
	for row := 1; row <= 500; row++ {
		x.set(cell(row, 1), fmt.Sprintf("=COUNTA(B1:B9,A1:A%d)-(A%d=A%d)", max(1, row-1), max(1, row-1), max(1, row/2)))
	}
	x.set(cell(1, 1), "=7")
	x.gets(cell(500, 1), 499, 500, 500, 2)
	x.set(cell(1, 1), "=8")
	x.gets(cell(500, 1), 499, 500, 500, 2)
}

// P20.2: a great diamond: as many ways from its top to its foot as nobody could go one by one.
func TestGreatDiamond(t *testing.T) {
	x := newSheet(t, api.MaxStamp, newPlain())
	x.set(cell(1, 1), "1")
	x.set(cell(1, 2), "0")
	for row := 2; row <= 2048; row++ {
		x.set(cell(row, 1), fmt.Sprintf("=MAX(A%d,B%d)", row-1, row-1))
		x.set(cell(row, 2), fmt.Sprintf("=MIN(A%d,B%d)", row-1, row-1))
	}
	x.gets(cell(2048, 1), 1, 4093, 4093, 2047)
	x.set(cell(1, 2), "0")
	x.gets(cell(2048, 2), 0, 3, 4093, 2047)
}

// P20.2, P20.8: a clock with as few numbers as may be is numbered anew all the time, and nothing is told otherwise for it.
func TestNumberedAnew(t *testing.T) {
	const top = 8
	p := newPlay(t, top+1)
	p.put("A1", "1")
	for row := 2; row <= top; row++ {
		p.put(a(row), fmt.Sprintf("=%s+%s", a(row-1), a(max(1, row-3))))
	}
	for turn := range 60 {
		p.put("A1", strconv.Itoa(turn%7))
		p.get(at(a(2 + turn*5%(top-1))))
		p.put(a(2+turn%3), fmt.Sprintf("=%s>%d", a(1+turn%3), turn%5))
		p.get(at(a(top)))
		p.get(at(a(2 + turn*3%(top-1))))
	}
	if p.k.Turns() < 20 {
		t.Errorf("the clock was numbered anew %d times", p.k.Turns())
	}
}
