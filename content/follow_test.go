package content

import (
	"math/rand"
	"slices"
	"strings"
	"sync"
	"testing"
	"unsafe"

	"oriel/api"
	"oriel/eval"
	"oriel/funcs"
	"oriel/parse"
	"oriel/print"
	"oriel/refs"
	"oriel/value"
)

// readable are the texts of all kinds that are read, with some by chance.
func readable(table *funcs.Table) []string {
	list := all()
	rnd := rand.New(rand.NewSource(132))
	for range 3000 {
		list = append(list, random(rnd, list))
	}
	return slices.DeleteFunc(list, func(s string) bool {
		_, code, _ := Read(s, len(s), table)
		return code != api.OK
	})
}

// What follows: a literal's Value is no Fault, may be, and a Text has no more bytes than the text; R3: it has no formula and no references.
func TestLiteralValues(t *testing.T) {
	table := funcs.New()
	for _, s := range readable(table) {
		c, _, _ := Read(s, len(s), table)
		if c.Is {
			continue
		}
		if c.Value.Tag == api.Fault || !value.May(c.Value) || len(c.Value.Str) > len(s) {
			t.Errorf("the literal %s has the value %s", brief(s), brief(c.Value))
		}
		if (c.Value.Tag == api.Blank) != (s == "") || c.Text != s || len(c.Formula.Nodes) > 0 || len(c.Refs) > 0 || strings.HasPrefix(s, "=") {
			t.Errorf("the literal %s: %s", brief(s), brief(c))
		}
	}
	// No name of a fault is one.
	for code := api.CodeCycle; code <= api.CodeArg; code++ {
		says(t, value.Name(code), text(value.Name(code)))
	}
}

// What follows: a formula may be; R3: it has no value; its references are just those of its nodes.
func TestFormulaMayBe(t *testing.T) {
	table := funcs.New()
	for _, s := range readable(table) {
		c, _, _ := Read(s, len(s), table)
		if !c.Is {
			continue
		}
		if refs.Check(c.Formula) != api.OK || c.Value != (api.Value{}) || c.Text != s || !strings.HasPrefix(s, "=") {
			t.Errorf("the formula %s: %s", brief(s), brief(c))
		}
		var list []api.Ref
		for _, n := range c.Formula.Nodes {
			ref, is := one(n.Cell.Row, n.Cell.Col), n.Kind == api.NodeCell
			if n.Kind == api.NodeRect {
				ref, is = api.Ref{Many: true, Rect: n.Rect}, true
			}
			if is && !slices.Contains(list, ref) {
				list = append(list, ref)
			}
		}
		if !slices.Equal(c.Refs, list) {
			t.Errorf("the formula %s has the references %v", brief(s), c.Refs)
		}
	}
}

// What follows: a formula's one text is read as the same formula, with the same references.
func TestThereAndBack(t *testing.T) {
	table := funcs.New()
	count := 0
	for _, s := range readable(table) {
		c, _, _ := Read(s, len(s), table)
		if !c.Is {
			continue
		}
		count++
		own, code := print.Print(c.Formula)
		if code != api.OK {
			t.Fatalf("%s has no text: %d", brief(s), code)
		}
		want := c
		want.Text = own
		reads(t, own, table, want)
	}
	if count < 250 {
		t.Errorf("only %d formulas were read", count)
	}
}

// What follows: behind a `'` each text is itself, whatever it says without it.
func TestBehindEach(t *testing.T) {
	table := funcs.New()
	for _, s := range all() {
		says(t, "'"+s, text(s))
		says(t, "''"+s, text("'"+s))
	}
	for _, s := range readable(table)[:200] {
		says(t, "'"+s, text(s))
	}
}

// A number's own text is read as that number.
func TestNumbersBack(t *testing.T) {
	rnd := rand.New(rand.NewSource(133))
	for range 20000 {
		x := rnd.Int63() >> rnd.Intn(63)
		if rnd.Intn(2) == 0 {
			x = -x
		}
		s := value.Show(number(x))
		if c, code, _ := Read(s, len(s), funcs.New()); code != api.OK || c.Value != number(x) {
			t.Fatalf("Read(%q) = %s, %d", s, brief(c), code)
		}
	}
}

// overwrite writes into all that a content holds, its spare room too.
func overwrite(c Content) {
	for _, list := range [][]api.Node{c.Formula.Nodes, c.Formula.Nodes[:cap(c.Formula.Nodes)]} {
		for i := range list {
			list[i] = fn("CHANGED", 7)
		}
	}
	for i := range c.Refs[:cap(c.Refs)] {
		c.Refs[:cap(c.Refs)][i] = many(7, 7, 9, 9)
	}
	_ = append(c.Formula.Nodes, val(number(7)))
	_ = append(c.Refs, one(7, 7))
}

// R4: of two contents of one text one is written into: the other stays as it is, and a third that is read behind that is the same.
func TestContentsApart(t *testing.T) {
	table := funcs.New()
	for _, s := range readable(table) {
		first, _, _ := Read(s, len(s), table)
		second, _, _ := Read(s, len(s), table)
		want := copied(second)
		overwrite(first)
		if !same(second, want) {
			t.Fatalf("%s: who writes into one content writes into another", brief(s))
		}
		reads(t, s, table, want)
		if !same(second, want) {
			t.Fatalf("%s: a later reading changes a content", brief(s))
		}
	}
}

// R4: nodes and references of one content are apart: who writes into one list does not write into the other.
func TestListsApart(t *testing.T) {
	table := funcs.New()
	for _, s := range formulas() {
		c, _, _ := Read(s, len(s), table)
		nodes := slices.Clone(c.Formula.Nodes)
		overwrite(Content{Refs: c.Refs})
		if !slices.Equal(c.Formula.Nodes, nodes) {
			t.Fatalf("%s: its references are its nodes' memory", brief(s))
		}
	}
}

// written is a text whose bytes can be written, and these, with others behind them.
func written(s string) (string, []byte) {
	bytes := []byte(s + "+spare")
	return unsafe.String(&bytes[0], len(s)), bytes
}

// R4: a text that is handed in is not changed and not kept: who writes into its bytes later changes no content.
func TestTextHandedIn(t *testing.T) {
	table := funcs.New()
	for _, s := range all() {
		handed, bytes := written(s)
		c, code, at := Read(handed, len(s), table)
		if string(bytes) != s+"+spare" {
			t.Fatalf("Read(%s) has changed the text", brief(s))
		}
		for i := range bytes {
			bytes[i] = 'Z'
		}
		want, wrong, place := Read(s, len(s), table)
		if code != wrong || at != place || !same(c, want) {
			t.Fatalf("Read(%s) keeps the text's bytes: %s", brief(s), brief(c))
		}
	}
}

// texts are all texts that a content holds.
func texts(c Content) []string {
	list := []string{c.Text, c.Value.Str}
	for _, n := range c.Formula.Nodes {
		list = append(list, n.Name, n.Value.Str)
	}
	return slices.DeleteFunc(list, func(s string) bool { return s == "" })
}

// overlap tells whether two texts share bytes of memory.
func overlap(a, b string) bool {
	p, q := uintptr(unsafe.Pointer(unsafe.StringData(a))), uintptr(unsafe.Pointer(unsafe.StringData(b)))
	return p < q+uintptr(len(b)) && q < p+uintptr(len(a))
}

// R4: no text of a content shares memory with what was read, nor with another content's; its Text and its Value's are apart.
func TestTextsApart(t *testing.T) {
	table := funcs.New()
	for _, s := range []string{"hello there", "'hello there", "''", "=LEN(\"some text\")", "=A1&\"abc\"", "007", "TRUER", "-x", "=SUM(A1:B2,ABS(A1))", times(900, "x"), "'" + times(900, "x")} {
		handed, _ := written(s)
		first, _, _ := Read(handed, len(s), table)
		second, _, _ := Read(handed, len(s), table)
		if first.Value.Str != "" && overlap(first.Text, first.Value.Str) {
			t.Errorf("%s: its Text and its Value share memory", brief(s))
		}
		for _, a := range texts(first) {
			if overlap(a, handed) {
				t.Errorf("%s: %q shares memory with what was read", brief(s), a)
			}
			for _, b := range texts(second) {
				if overlap(a, b) {
					t.Errorf("%s: %q shares memory with %q of another content", brief(s), a, b)
				}
			}
		}
	}
}

// R5: a text is read the same whatever was read or refused between, and by whichever table: an old one, a new one, one that was never asked.
func TestOneTable(t *testing.T) {
	shared, rnd := funcs.New(), rand.New(rand.NewSource(134))
	list := all()
	names := shared.Names()
	for range 20000 {
		s := list[rnd.Intn(len(list))]
		most := []int{len(s), len(s) - 1, 1024}[rnd.Intn(3)]
		c, code, at := Read(s, most, shared)
		if other, wrong, place := Read(s, most, &funcs.Table{}); wrong != code || place != at || !same(c, other) {
			t.Fatalf("Read(%s, %d) hangs on the table's past: %d, %d", brief(s), most, code, wrong)
		}
		overwrite(c)
	}
	if !slices.Equal(shared.Names(), names) || !slices.Equal(names, funcs.New().Names()) {
		t.Error("the table has other names now")
	}
}

// Side by side: many read with one table at one time, each as it would alone, the first who asks too.
func TestSideBySide(t *testing.T) {
	list := slices.Concat(formulas()[:60], others(), numbers())
	for _, w := range wrongs() {
		list = append(list, w.s)
	}
	for round := range 20 {
		table := funcs.New()
		var done sync.WaitGroup
		var bad [16]string
		for hand := range bad {
			done.Go(func() {
				for i := range list {
					s := list[(i+hand*round)%len(list)]
					want, code, at := model(s, len(s), table)
					c, wrong, place := Read(s, len(s), table)
					if wrong != code || place != at || !same(c, want) {
						bad[hand] = s
					}
					overwrite(c)
				}
			})
		}
		done.Wait()
		for _, s := range bad {
			if s != "" {
				t.Fatalf("Read(%s) side by side is otherwise", brief(s))
			}
		}
	}
}

// nothing is a source whose cells have nothing.
type nothing struct{}

func (nothing) Cell(api.Cell) api.Value { return api.Value{} }

func (nothing) Rect(api.Rect) []api.Entry { return nil }

// A formula that was read is worked out by the table that read it, with no call that may not be.
func TestWorkedOut(t *testing.T) {
	table := funcs.New()
	work := eval.New(table, api.MaxText, nil)
	for s, want := range map[string]api.Value{"=1+2*3": number(70000), "=SUM(A1:B2,4)": number(40000), `=LEN("abc")`: number(30000), "=IF(A1,1,\"no\")": text("no"), "=A1": {}, "=ISBLANK(A1)": truth(true)} {
		c, code, _ := Read(s, 64, table)
		if v := work.Work(c.Formula, nothing{}); code != api.OK || v != want {
			t.Errorf("%s = %s, %d", s, brief(v), code)
		}
	}
}

// P6.1: what parse reads or refuses, content reads or refuses, by the same error and place.
func TestAsParse(t *testing.T) {
	table, rnd := funcs.New(), rand.New(rand.NewSource(135))
	list := slices.Concat(formulas(), []string{"=1", "=A1", "=SUM("})
	for range 20000 {
		s := "=" + random(rnd, list)
		f, code, at := parse.Parse(s, table)
		c, wrong, place := Read(s, len(s), table)
		if wrong != code || place != at || c.Is != (code == api.OK) || !refs.Same(c.Formula, f) {
			t.Fatalf("Read(%s) = %s, %d, %d; Parse: %d, %d", brief(s), brief(c), wrong, place, code, at)
		}
	}
}
