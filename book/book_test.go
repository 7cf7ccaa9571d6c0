package book

import (
	"testing"

	"oriel/api"
	"oriel/content"
	"oriel/funcs"
)

// The chapter's examples, one behind the other.
func TestExamples(t *testing.T) {
	b := New(funcs.New())
	first := takes(t, b, "=1+1")
	if takes(t, b, "=1+1") != first {
		t.Error("two pointers of one text")
	}
	stands(t, b, 1, 1)
	refuses(t, b, "=1+", api.ErrSyntax)
	stands(t, b, 1, 1)
	drops(t, b, "=1+1", api.OK)
	drops(t, b, "=1+1", api.OK)
	drops(t, b, "=1+1", api.ErrBook)
	stands(t, b, 0, 1)
	takes(t, b, "=1+1")
	stands(t, b, 1, 2)
	refuses(t, b, times(1025, "x"), api.ErrTooLong)
	stands(t, b, 1, 2)
}

// P14.1: without a table there is no book; a new one holds nothing, has read nothing, and keeps its table.
func TestNew(t *testing.T) {
	if b := New(nil); b != nil {
		t.Errorf("New(nil) = %v", b)
	}
	for _, table := range []*funcs.Table{funcs.New(), {}} {
		b := New(table)
		stands(t, b, 0, 0)
		forgot(t, b)
		if b.table != table {
			t.Error("another table")
		}
		for _, s := range right() {
			drops(t, b, s, api.ErrBook)
		}
		stands(t, b, 0, 0)
		takes(t, b, "=SUM(A1:B2)")
		stands(t, b, 1, 1)
	}
}

// P14.2, P14.4: a text is told as content.Read tells it, and is held and counted by that.
func TestTake(t *testing.T) {
	for _, s := range right() {
		b := New(funcs.New())
		takes(t, b, s)
		stands(t, b, 1, 1)
	}
	b := New(funcs.New())
	if c, code := b.Take("12.5"); code != api.OK || c.Text != "12.5" || c.Value != (api.Value{Tag: api.Number, Num: 125000}) || c.Is {
		t.Errorf("a number: %s, %d", brief(c), code)
	}
	if c, code := b.Take("'12.5"); code != api.OK || c.Text != "'12.5" || c.Value != (api.Value{Tag: api.Text, Str: "12.5"}) || c.Is {
		t.Errorf("a text: %s, %d", brief(c), code)
	}
	if c, code := b.Take("=A1+2"); code != api.OK || c.Text != "=A1+2" || c.Value != (api.Value{}) || !c.Is || len(c.Formula.Nodes) != 3 || len(c.Refs) != 1 {
		t.Errorf("a formula: %s, %d", brief(c), code)
	}
	stands(t, b, 3, 3)
}

// P14.2: as long as a text is held, all who take it are told one pointer, and nobody reads it again.
func TestTakeOften(t *testing.T) {
	for _, s := range right() {
		b := New(funcs.New())
		first := takes(t, b, s)
		for range 20 {
			if takes(t, b, s) != first {
				t.Fatalf("%s: another pointer", brief(s))
			}
			stands(t, b, 1, 1)
		}
		// It is held by one at the least, however often it is taken and dropped beside that.
		for n := range 21 {
			stands(t, b, 1, 1)
			drops(t, b, s, api.OK)
			if n < 20 && takes(t, b, s) != first {
				t.Fatalf("%s: another pointer behind a Drop", brief(s))
			}
			if n < 20 {
				drops(t, b, s, api.OK)
			}
		}
		stands(t, b, 0, 1)
		drops(t, b, s, api.ErrBook)
		forgot(t, b)
	}
}

// P14.3: a text is held once less by each Drop, till it is held no more.
func TestDrop(t *testing.T) {
	for _, s := range right() {
		b := New(funcs.New())
		for n := 1; n <= 6; n++ {
			for range n {
				takes(t, b, s)
			}
			stands(t, b, 1, int64(n))
			for left := n; left > 0; left-- {
				stands(t, b, 1, int64(n))
				drops(t, b, s, api.OK)
			}
			for range 3 {
				drops(t, b, s, api.ErrBook)
				stands(t, b, 0, int64(n))
			}
			forgot(t, b)
		}
	}
}

// P14.3: what was dropped to nothing is forgotten: who takes it then reads it anew, into memory of its own.
func TestReadAnew(t *testing.T) {
	for _, s := range right() {
		b := New(funcs.New())
		var told []*content.Content
		for n := range 5 {
			c := takes(t, b, s)
			stands(t, b, 1, int64(n+1))
			for _, old := range told {
				if c == old {
					t.Fatalf("%s: the pointer of what was forgotten", brief(s))
				}
			}
			told = append(told, c)
			if takes(t, b, s) != c {
				t.Fatalf("%s: two pointers", brief(s))
			}
			drops(t, b, s, api.OK)
			drops(t, b, s, api.OK)
			stands(t, b, 0, int64(n+1))
		}
	}
}

// P14.3, P14.6: a Drop once too often takes nothing from who takes the text behind it.
func TestDropTooOften(t *testing.T) {
	b := New(funcs.New())
	for range 5 {
		drops(t, b, "x", api.ErrBook)
	}
	takes(t, b, "x")
	stands(t, b, 1, 1)
	drops(t, b, "x", api.OK)
	drops(t, b, "x", api.ErrBook)
	takes(t, b, "x")
	takes(t, b, "x")
	drops(t, b, "x", api.OK)
	stands(t, b, 1, 2)
	drops(t, b, "x", api.OK)
	stands(t, b, 0, 2)
}

// P14.4: Held tells how many different texts are held, Reads how many readings there were, of several texts beside each other.
func TestSeveral(t *testing.T) {
	b, list := New(funcs.New()), right()
	told := map[string]*content.Content{}
	for i, s := range list {
		told[s] = takes(t, b, s)
		stands(t, b, i+1, int64(i+1))
	}
	for _, s := range list {
		if takes(t, b, s) != told[s] {
			t.Errorf("%s: another pointer", brief(s))
		}
		stands(t, b, len(list), int64(len(list)))
	}
	for _, s := range list {
		drops(t, b, s, api.OK)
		stands(t, b, len(list), int64(len(list)))
	}
	for i, s := range list {
		drops(t, b, s, api.OK)
		stands(t, b, len(list)-i-1, int64(len(list)))
		drops(t, b, s, api.ErrBook)
		for _, other := range list[i+1:] {
			if e := b.entries[other]; e == nil || e.says != told[other] {
				t.Fatalf("the Drop of %s changes %s", brief(s), brief(other))
			}
		}
	}
	forgot(t, b)
	for i, s := range list {
		takes(t, b, s)
		stands(t, b, i+1, int64(len(list)+i+1))
	}
}

// P14.2: pointers of different texts are different, also of such as say the same.
func TestPointersApart(t *testing.T) {
	b := New(funcs.New())
	whose := map[*content.Content]string{}
	for _, s := range right() {
		c := takes(t, b, s)
		if other, is := whose[c]; is {
			t.Errorf("%s and %s have one pointer", brief(s), brief(other))
		}
		whose[c] = s
	}
}
