package store

import (
	"testing"

	"oriel/api"
	"oriel/content"
)

// kept tells how many chunks a store keeps.
func (s *Store) kept() int {
	n := 0
	for _, k := range s.chunks {
		if k != nil {
			n++
		}
	}
	return n
}

// What is dropped leaves nothing behind: no chunk without contents, no room for a row's many contents that are gone.
func TestRoom(t *testing.T) {
	s, m := New(), &model{}
	for _, row := range goodRows() {
		for col := 1; col <= 256; col++ {
			puts(t, s, m, cell(row, col), some(col), api.OK)
		}
		for col := 256; col > 1; col-- {
			drops(t, s, m, cell(row, col), api.OK)
		}
		at, in := split(row)
		if room := cap(s.chunks[at][in]); room > 8 {
			t.Errorf("the row %d has one content and room for %d", row, room)
		}
		drops(t, s, m, cell(row, 1), api.OK)
		if s.kept() != 0 {
			t.Fatalf("%d chunks are kept, and none has a content", s.kept())
		}
	}
	for i, row := range []int{1, 64, 65, 128, 129, 4096} {
		puts(t, s, m, cell(row, 9), some(row), api.OK)
		if want := i/2 + 1; row < 4096 && s.kept() != want {
			t.Errorf("behind the row %d: %d chunks; want %d", row, s.kept(), want)
		}
	}
	drops(t, s, m, cell(64, 9), api.OK)
	drops(t, s, m, cell(2, 9), api.OK)
	if s.kept() != 4 {
		t.Errorf("%d chunks are kept; want 4", s.kept())
	}
	drops(t, s, m, cell(1, 9), api.OK)
	if s.kept() != 3 {
		t.Errorf("%d chunks are kept; want 3", s.kept())
	}
}

// What is refused, asked, or dropped where nothing is makes no chunk.
func TestNoRoom(t *testing.T) {
	s := New()
	for _, c := range append(goodCells(), wrongCells()...) {
		s.Put(c, nil)
		s.Drop(c)
		s.Get(c)
		s.Next(whole(), c)
	}
	for _, c := range wrongCells() {
		s.Put(c, some(1))
	}
	if s.kept() != 0 || s.Count() != 0 {
		t.Errorf("%d chunks are kept, Count %d", s.kept(), s.Count())
	}
}

// Chunks have all rows of the sheet, each at one place.
func TestSplit(t *testing.T) {
	seen := map[[2]int]int{}
	for row := 1; row <= api.MaxRow; row++ {
		at, in := split(row)
		if at < 0 || at >= chunkCount || in < 0 || in >= chunkRows || seen[[2]int{at, in}] != 0 {
			t.Fatalf("the row %d stands at %d, %d", row, at, in)
		}
		seen[[2]int{at, in}] = row
		if end, _ := split(lastRow(at)); end != at || row > lastRow(at) {
			t.Fatalf("the last row of the chunk %d is %d", at, lastRow(at))
		}
		if next, _ := split(lastRow(at) + 1); next != at+1 {
			t.Fatalf("behind the row %d the chunk is %d", lastRow(at), next)
		}
	}
}

// R4: a store changes nothing of a content that it is given, nor of one that it gives up.
func TestContentStays(t *testing.T) {
	made := func() content.Content {
		return content.Content{Text: "=A1+B2", Is: true, Formula: api.Formula{Nodes: []api.Node{{Kind: api.NodeCell, Cell: cell(1, 1)}, {Kind: api.NodeCell, Cell: cell(2, 2)}, {Kind: api.NodeOp, Op: api.OpAdd}}}, Refs: []api.Ref{{Rect: rect(1, 1, 1, 1)}, {Rect: rect(2, 2, 2, 2)}}}
	}
	x, s := made(), New()
	for _, c := range goodCells() {
		s.Put(c, &x)
		s.Put(cell(c.Row, 100), some(1))
		s.Get(c)
		s.Next(whole(), c)
		s.Drop(c)
	}
	want := made()
	if x.Text != want.Text || x.Is != want.Is || x.Value != want.Value || len(x.Formula.Nodes) != 3 || len(x.Refs) != 2 {
		t.Fatal("the content is changed")
	}
	for i := range want.Formula.Nodes {
		if x.Formula.Nodes[i] != want.Formula.Nodes[i] {
			t.Errorf("the node %d is changed", i)
		}
	}
	for i := range want.Refs {
		if x.Refs[i] != want.Refs[i] {
			t.Errorf("the reference %d is changed", i)
		}
	}
	// The pointer is kept, not what it leads to: who gets it sees what was written there.
	s.Put(cell(1, 1), &x)
	x.Text = "other"
	if s.Get(cell(1, 1)) != &x || s.Get(cell(1, 1)).Text != "other" {
		t.Error("another content is got than was put")
	}
}
