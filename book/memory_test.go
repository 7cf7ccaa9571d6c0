package book

import (
	"slices"
	"strings"
	"testing"
	"unsafe"

	"oriel/api"
	"oriel/content"
	"oriel/funcs"
)

// written is a text whose bytes can be written, and these, with others behind them.
func written(s string) (string, []byte) {
	bytes := []byte(s + "+spare")
	return unsafe.String(&bytes[0], len(s)), bytes
}

// spoil writes into all bytes.
func spoil(bytes []byte) {
	for i := range bytes {
		bytes[i] = 'Z'
	}
}

// R4: a text that is handed to Take or Drop is not changed and not kept: who writes into its bytes later changes nothing.
func TestHandedIn(t *testing.T) {
	b := New(funcs.New())
	for _, s := range right() {
		handed, bytes := written(s)
		c := takes(t, b, handed)
		again, others := written(s)
		takes(t, b, again)
		if string(bytes) != s+"+spare" || string(others) != s+"+spare" {
			t.Fatalf("Take(%s) has changed the text", brief(s))
		}
		spoil(bytes)
		spoil(others)
		if takes(t, b, s) != c {
			t.Fatalf("%s is held no more", brief(s))
		}
		third, last := written(s)
		drops(t, b, third, api.OK)
		if string(last) != s+"+spare" {
			t.Fatalf("Drop(%s) has changed the text", brief(s))
		}
		spoil(last)
		takes(t, b, s)
		if s != "" {
			drops(t, b, times(len(s), "Z"), api.ErrBook)
		}
	}
	stands(t, b, len(right()), int64(len(right())))
	for _, s := range right() {
		for range 3 {
			drops(t, b, s, api.OK)
		}
		drops(t, b, s, api.ErrBook)
	}
	forgot(t, b)
}

// R4: a refused text is not kept either.
func TestRefusedHandedIn(t *testing.T) {
	b := New(funcs.New())
	for _, w := range wrongs() {
		handed, bytes := written(w.s)
		refuses(t, b, handed, w.code)
		if string(bytes) != w.s+"+spare" {
			t.Fatalf("Take(%s) has changed the text", brief(w.s))
		}
		spoil(bytes)
		refuses(t, b, w.s, w.code)
		forgot(t, b)
	}
}

// overwrite writes into all that a content holds, its spare room too.
func overwrite(c *content.Content) {
	for i := range c.Formula.Nodes[:cap(c.Formula.Nodes)] {
		c.Formula.Nodes[:cap(c.Formula.Nodes)][i] = api.Node{Kind: api.NodeCall, Name: "CHANGED", Args: 7}
	}
	for i := range c.Refs[:cap(c.Refs)] {
		c.Refs[:cap(c.Refs)][i] = api.Ref{Many: true, Rect: api.Rect{Top: 7, Left: 7, Bottom: 9, Right: 9}}
	}
	_ = append(c.Formula.Nodes, api.Node{Kind: api.NodeOp, Op: api.OpNeg})
	_ = append(c.Refs, api.Ref{})
	*c = content.Content{Text: "changed", Is: !c.Is, Value: api.Value{Tag: api.Fault, Code: api.CodeNum}}
}

// copied is a content that shares nothing with what it is made of.
func copied(c content.Content) content.Content {
	c.Text, c.Value.Str = strings.Clone(c.Text), strings.Clone(c.Value.Str)
	c.Formula.Nodes, c.Refs = slices.Clone(c.Formula.Nodes), slices.Clone(c.Refs)
	return c
}

// R4: no pointer writes into another's: not into another text's, nor into that of the same text which was forgotten, nor into another book's.
func TestContentsApart(t *testing.T) {
	table := funcs.New()
	for _, s := range right() {
		b, other := New(table), New(table)
		old := takes(t, b, s)
		drops(t, b, s, api.OK)
		told, far := takes(t, b, s), takes(t, other, s)
		var beside []*content.Content
		var want []content.Content
		for _, r := range right() {
			if r != s {
				beside = append(beside, takes(t, b, r))
			}
		}
		beside = append(beside, old, far)
		for _, c := range beside {
			want = append(want, copied(*c))
		}
		overwrite(told)
		for i, c := range beside {
			if !same(*c, want[i]) {
				t.Fatalf("who writes into %s writes into %s", brief(s), brief(want[i].Text))
			}
		}
		// The book finds its texts by its own means, whatever somebody writes.
		drops(t, b, "changed", api.ErrBook)
		drops(t, b, s, api.OK)
		drops(t, b, s, api.ErrBook)
		if c := takes(t, b, s); c == told || !same(*c, *far) {
			t.Fatalf("%s is not read anew", brief(s))
		}
	}
}

// R5: two books know nothing of one another, with one table and with two.
func TestTwoBooks(t *testing.T) {
	table := funcs.New()
	for _, pair := range [][2]*Book{{New(table), New(table)}, {New(funcs.New()), New(funcs.New())}, {New(table), New(&funcs.Table{})}} {
		a, b := pair[0], pair[1]
		for i, s := range right() {
			first := takes(t, a, s)
			stands(t, a, i+1, int64(i+1))
			stands(t, b, 0, int64(i))
			drops(t, b, s, api.ErrBook)
			if takes(t, b, s) == first {
				t.Fatalf("%s: one pointer in two books", brief(s))
			}
			stands(t, b, 1, int64(i+1))
			drops(t, b, s, api.OK)
			drops(t, b, s, api.ErrBook)
			stands(t, a, i+1, int64(i+1))
			if takes(t, a, s) != first {
				t.Fatalf("%s: another book's Drop has dropped it", brief(s))
			}
			drops(t, a, s, api.OK)
		}
		for _, w := range wrongs() {
			refuses(t, a, w.s, w.code)
			refuses(t, b, w.s, w.code)
		}
		forgot(t, b)
		stands(t, a, len(right()), int64(len(right())))
	}
}

// A table that books share tells behind it what it told ahead.
func TestTableStays(t *testing.T) {
	table := funcs.New()
	names := table.Names()
	for range 3 {
		b := New(table)
		for _, s := range right() {
			takes(t, b, s)
		}
		for _, w := range wrongs() {
			refuses(t, b, w.s, w.code)
		}
	}
	if !slices.Equal(table.Names(), names) || !table.Known("SUM") || table.Known("NONE") {
		t.Error("the table has changed")
	}
}
