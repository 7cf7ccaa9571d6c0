package book

import (
	"fmt"
	"slices"
	"strings"
	"testing"

	"oriel/api"
	"oriel/content"
	"oriel/funcs"
)

func times(n int, s string) string { return strings.Repeat(s, n) }

// brief is a thing, written out for who reads a failure: cut and quoted, as texts have any bytes.
func brief(x any) string { return fmt.Sprintf("%.200q", fmt.Sprintf("%+v", x)) }

// literals are texts of each kind of literal: nothing, numbers, truths, quoted and other texts.
func literals() []string {
	return []string{"", "0", "7", "12.5", "-3", "007", "1 ", " 1", "TRUE", "FALSE", "true", "'", "''", "'12", "'=1+", "hello", " ", "  ", " =1", "\x00", "\xff", "é", "#DIV!", times(1024, "x"), "'" + times(1023, "x")}
}

// formulas are texts of formulas, some of which say the same in other bytes.
func formulas() []string {
	return []string{"=1+1", "= 1+1", "=1+1 ", "=(1+1)", "=A1", "=(A1)", "=A1+SUM(A1:B2)", "=SUM(A1:B9)*A1&B2", `="some text"`, "=IF(A1,\"a\",\"b\")", "=#MISS!", "=ASK(1)", "=" + times(32, "(") + "1" + times(32, ")"), "=1" + times(1022, "%"), "=" + times(1021, " ") + "A1"}
}

// refused is a text that is refused, and by which error.
type refused struct {
	s    string
	code api.Errno
}

// wrongs are texts of each thing that may be wrong, in the order in which it is asked.
func wrongs() []refused {
	return []refused{
		{times(1025, "x"), api.ErrTooLong}, {times(1025, "1"), api.ErrTooLong}, {times(1025, " "), api.ErrTooLong}, {"'" + times(1024, "x"), api.ErrTooLong}, {times(5000, "x"), api.ErrTooLong}, {times(1<<20, "x"), api.ErrTooLong},
		{"=1" + times(1023, "%"), api.ErrTooLong}, {"=" + times(1022, " ") + "A1", api.ErrTooLong}, {"=" + times(1024, "("), api.ErrTooLong}, {times(1025, "="), api.ErrTooLong},
		{"=" + times(1023, "("), api.ErrTooDeep}, {"=" + times(33, "(") + "1" + times(33, ")"), api.ErrTooDeep}, {times(1024, "="), api.ErrSyntax},
		{"=", api.ErrSyntax}, {"= ", api.ErrSyntax}, {"=1+", api.ErrSyntax}, {"==1", api.ErrSyntax}, {"=NONE(1)", api.ErrSyntax}, {"=A1:B2", api.ErrSyntax}, {"=ABS(1,2)", api.ErrSyntax}, {"=\xff", api.ErrSyntax}, {"=A0", api.ErrSyntax},
	}
}

// right are texts that are not refused.
func right() []string { return slices.Concat(literals(), formulas()) }

// same tells whether two contents say the same, in all fields.
func same(a, b content.Content) bool {
	return a.Text == b.Text && a.Value == b.Value && a.Is == b.Is && slices.Equal(a.Formula.Nodes, b.Formula.Nodes) && slices.Equal(a.Refs, b.Refs)
}

// stands fails the test, unless a book holds so many texts and has read so often.
func stands(t *testing.T, b *Book, held int, reads int64) {
	t.Helper()
	if b.Held() != held || b.Reads() != reads {
		t.Errorf("Held %d, Reads %d; want %d, %d", b.Held(), b.Reads(), held, reads)
	}
}

// takes is what a text says that a book takes; it fails the test, unless that is what content.Read tells.
func takes(t *testing.T, b *Book, s string) *content.Content {
	t.Helper()
	c, code := b.Take(s)
	want, wrong, _ := content.Read(s, api.MaxText, funcs.New())
	if code != wrong || (c == nil) != (wrong != api.OK) || c != nil && !same(*c, want) {
		t.Fatalf("Take(%s) = %s, %d; want %s, %d", brief(s), brief(c), code, brief(want), wrong)
	}
	return c
}

// refuses fails the test, unless a book refuses a text by an error, with nothing beside it.
func refuses(t *testing.T, b *Book, s string, want api.Errno) {
	t.Helper()
	if c, code := b.Take(s); c != nil || code != want {
		t.Errorf("Take(%s) = %s, %d; want %d", brief(s), brief(c), code, want)
	}
}

// drops fails the test, unless a book answers the Drop of a text by this error.
func drops(t *testing.T, b *Book, s string, want api.Errno) {
	t.Helper()
	if code := b.Drop(s); code != want {
		t.Errorf("Drop(%s) = %d; want %d", brief(s), code, want)
	}
}

// forgot fails the test, unless a book keeps nothing at all.
func forgot(t *testing.T, b *Book) {
	t.Helper()
	if b.Held() != 0 || len(b.entries) != 0 {
		t.Errorf("Held %d, with %d entries", b.Held(), len(b.entries))
	}
}

// model is a book by the chapter's words: how often each text is held, and by which pointer it was told.
type model struct {
	held  map[string]int
	told  map[string]*content.Content
	reads int64
}

// checkTake asks a book and the model the same Take.
func (m *model) checkTake(t *testing.T, b *Book, s string) {
	t.Helper()
	c := takes(t, b, s)
	if c == nil {
		return
	}
	if m.held[s] == 0 {
		m.reads++
		if c == m.told[s] {
			t.Fatalf("Take(%s) tells a pointer that was forgotten", brief(s))
		}
		m.told[s] = c
	}
	m.held[s]++
	if c != m.told[s] {
		t.Fatalf("Take(%s) tells another pointer", brief(s))
	}
}

// checkDrop asks a book and the model the same Drop.
func (m *model) checkDrop(t *testing.T, b *Book, s string) {
	t.Helper()
	if m.held[s] == 0 {
		drops(t, b, s, api.ErrBook)
		return
	}
	drops(t, b, s, api.OK)
	m.held[s]--
	if m.held[s] == 0 {
		delete(m.held, s)
	}
}
