package funcs

import (
	"math"
	"math/rand"
	"slices"
	"testing"

	"oriel/aggs"
	"oriel/api"
	"oriel/nums"
	"oriel/texts"
)

// The chapter's examples.
func TestExamples(t *testing.T) {
	div, arg := api.CodeDiv, api.CodeArg
	checks(t, []ask{
		{"IF", row(true, 1, 2), 1}, {"IF", row(0, 1, 2), 2}, {"IF", row(0, 1), false}, {"IF", row(div, 1, 2), div}, {"IF", row("x", 1, 2), api.CodeType}, {"IF", row(1, div, 2), div}, {"IF", row(0, div, 2), 2},
		{"AND", row(1, true), true}, {"AND", row(1, 0), false}, {"OR", row(0, nil), false}, {"XOR", row(1, 1, 1), true}, {"AND", row("x", api.CodeNum), api.CodeNum}, {"NOT", row(0), true},
		{"IFERR", row(div, 2), 2}, {"IFERR", row(1, 2), 1}, {"ISERR", row(arg), true}, {"ISBLANK", row(""), false}, {"TYPE", row("x"), 2}, {"TYPE", row(api.CodeNum), 4},
		{"ERRNO", row(div), 3}, {"ERRNO", row(1), arg}, {"ERR", row(3), div}, {"ERR", row(1), arg}, {"ERR", row(9), arg}, {"ERR", row("x"), api.CodeType}, {"ERR", row(parts(25000)), arg},
		{"CHOOSE", row(2, 1, "b"), "b"}, {"CHOOSE", row(3, 1, 2), api.CodeRange}, {"CHOOSE", row(parts(5000), 1), arg}, {"CHOOSE", row(1, div, 2), div}, {"CHOOSE", row(2, div, 2), 2},
		{"ABS", row(-2), 2}, {"LEN", row("ab"), 2}, {"ASK", row(1), arg}, {"NONE", row(1), arg}, {"IF", row(1), arg}, {"IF", row(box(1, 2), 1), arg},
	})
	names := New().Names()
	if !slices.Equal(names[:3], []string{"ABS", "AND", "ASK"}) || names[len(names)-1] != "XOR" {
		t.Errorf("Names() = %q", names)
	}
}

// P11.1: just the names of the four layers are known, whatever was asked ahead of it.
func TestKnown(t *testing.T) {
	table := New()
	for _, name := range allNames() {
		below := nums.Known(name) || texts.Known(name) || aggs.Known(name)
		if below == slices.Contains(ownNames(), name) {
			t.Errorf("%s is of no layer, or of two", name)
		}
		if !table.Known(name) || !New().Known(name) {
			t.Errorf("%s is not known", name)
		}
	}
	for _, name := range otherNames() {
		if table.Known(name) || New().Known(name) {
			t.Errorf("%.20q is known", name)
		}
	}
}

// P11.1: all names of up to three great letters, and what the layers below know of them.
func TestKnownShort(t *testing.T) {
	table := New()
	letters := func(n int) string {
		s := ""
		for ; n > 0; n /= 27 {
			if n%27 == 0 {
				return ""
			}
			s += string(rune('A' + n%27 - 1))
		}
		return s
	}
	for n := range 27 * 27 * 27 {
		name := letters(n)
		want := nums.Known(name) || texts.Known(name) || aggs.Known(name) || slices.Contains(ownNames(), name)
		if table.Known(name) != want {
			t.Errorf("Known(%q) = %v", name, !want)
		}
	}
}

// P11.1: Names() is all of them, whether it is asked first, behind other calls or once more.
func TestNames(t *testing.T) {
	want := allNames()
	if len(want) != 66 || !slices.IsSorted(want) || len(slices.Compact(slices.Clone(want))) != 66 {
		t.Fatal("the list to hold them against is wrong")
	}
	first := New()
	behindKnown, behindTakes, behindCall := New(), New(), New()
	behindKnown.Known("NONE")
	behindTakes.Takes("IF", nil)
	behindCall.Call("NONE", nil, -1)
	for _, table := range []*Table{first, first, behindKnown, behindTakes, behindCall, first} {
		if names := table.Names(); !slices.Equal(names, want) {
			t.Errorf("Names() = %q", names)
		}
	}
}

// P11.1 and R4: what Names() answers is the caller's, its spare room too.
func TestNamesWritten(t *testing.T) {
	table := New()
	for range 3 {
		names := table.Names()
		other := table.Names()
		for i := range names {
			names[i] = "NONE"
		}
		spare := names[:cap(names)]
		for i := range spare {
			spare[i] = "ZZZ"
		}
		names = append(names, "AAA")
		slices.Sort(names)
		if !slices.Equal(other, allNames()) || !slices.Equal(table.Names(), allNames()) || !slices.Equal(New().Names(), allNames()) {
			t.Fatal("what was written into the names is told again")
		}
		if table.Known("NONE") || table.Known("ZZZ") || !table.Known("ABS") || table.Call("ABS", row(-1), 8) != wholes(1) {
			t.Fatal("what was written into the names is known")
		}
	}
}

// P11.1: so many arguments are taken, and no rectangle among them.
func TestTakes(t *testing.T) {
	table := New()
	for name, count := range counts() {
		for n := range 40 {
			rects := make([]bool, n)
			if table.Takes(name, rects) != (n >= count[0] && n <= count[1]) {
				t.Errorf("Takes(%s, %d arguments) is wrong", name, n)
			}
			for i := range rects {
				rects[i] = true
				if table.Takes(name, rects) {
					t.Errorf("Takes(%s, a rectangle at %d of %d)", name, i, n)
				}
				rects[i] = false
			}
			if n > 0 && table.Takes(name, slices.Repeat([]bool{true}, n)) {
				t.Errorf("Takes(%s, %d rectangles)", name, n)
			}
		}
		if table.Takes(name, nil) || table.Takes(name, []bool{}) || table.Takes(name, make([]bool, 1<<20)) {
			t.Errorf("Takes(%s, none or very many)", name)
		}
	}
	for _, name := range otherNames() {
		for n := range 18 {
			if table.Takes(name, make([]bool, n)) || n > 0 && table.Takes(name, slices.Repeat([]bool{true}, n)) {
				t.Errorf("Takes(%.20q, %d arguments)", name, n)
			}
		}
	}
}

// layer is one of those below.
type layer struct {
	known func(name string) bool
	takes func(name string, rects []bool) bool
	call  func(name string, args []api.Arg, text int) api.Value
}

// below is the layer that knows a name, and whether there is one.
func below(name string) (layer, bool) {
	for _, l := range []layer{{nums.Known, nums.Takes, nums.Call}, {texts.Known, texts.Takes, texts.Call}, {aggs.Known, aggs.Takes, aggs.Call}} {
		if l.known(name) {
			return l, true
		}
	}
	return layer{}, false
}

// patterns are rows of places at which rectangles stand: all short ones, and longer ones that differ from all alike at one place at most.
func patterns() [][]bool {
	list := [][]bool{nil, {}}
	for n := 1; n <= 5; n++ {
		for bits := range 1 << n {
			rects := make([]bool, n)
			for i := range rects {
				rects[i] = bits>>i&1 == 1
			}
			list = append(list, rects)
		}
	}
	for n := 6; n <= 18; n++ {
		for _, is := range []bool{false, true} {
			alike := slices.Repeat([]bool{is}, n)
			list = append(list, alike)
			for i := range n {
				one := slices.Clone(alike)
				one[i] = !is
				list = append(list, one)
			}
		}
	}
	return list
}

// P11.1: each name of nums, texts and aggs takes what they say.
func TestTakesBelow(t *testing.T) {
	table := New()
	taken := 0
	for _, name := range allNames() {
		l, is := below(name)
		if !is {
			continue
		}
		some := false
		for _, rects := range patterns() {
			want := l.takes(name, rects)
			some = some || want
			if table.Takes(name, rects) != want {
				t.Errorf("Takes(%s, %v) = %v", name, rects, !want)
			}
		}
		if some {
			taken++
		}
	}
	if taken != 50 {
		t.Errorf("%d names of the layers below take something", taken)
	}
}

// P11.2: each name of nums, texts and aggs is answered as they answer it, with every bound of texts.
func TestCallBelow(t *testing.T) {
	table, rnd, rectangles := New(), rand.New(rand.NewSource(11)), boxes()
	set := append(append(row(1, 2, "ab", "x", true, nil, 0), boxes()...), wrongArgs()...)
	for _, v := range values() {
		set = append(set, api.Arg{Value: v})
	}
	for _, name := range allNames() {
		l, is := below(name)
		if !is {
			continue
		}
		right := 0
		for _, rects := range patterns() {
			// What is taken is asked more often: of what is not there is one answer alone.
			rounds := 2
			if l.takes(name, rects) {
				rounds = 12000 / len(rects) / len(rects)
			}
			for range rounds {
				var args []api.Arg
				for _, rect := range rects {
					if rect {
						args = append(args, rectangles[rnd.Intn(4)])
					} else {
						args = append(args, set[rnd.Intn(7)])
					}
				}
				if len(args) > 0 && rnd.Intn(2) == 0 {
					args[rnd.Intn(len(args))] = set[rnd.Intn(len(set))]
				}
				bound := []int{math.MinInt, -1, 0, 1, 2, 8, 1023, 1024, 1025, math.MaxInt}[rnd.Intn(10)]
				v, want := table.Call(name, args, bound), l.call(name, args, bound)
				if v != want {
					t.Fatalf("%s(%s), %d bytes = %s; want %s", name, brief(args), bound, brief(v), brief(want))
				}
				if v.Tag != api.Fault {
					right++
				}
			}
		}
		if right < 10 {
			t.Errorf("%s was asked for %d answers only that are no Faults", name, right)
		}
	}
}

// P11.2: one call of each layer below, written down.
func TestCallBelowWritten(t *testing.T) {
	checks(t, []ask{
		{"FLOOR", row(parts(75000), 2), 6}, {"ODD", row(3), true}, {"MOD", row(1, 0), api.CodeDiv}, {"GCD", row(12, -18, 0), 6},
		{"UPPER", row("aB1"), "AB1"}, {"REPT", row("ab", 4), "abababab"}, {"REPT", row("ab", 5), api.CodeLong}, {"NUM", row("1.5"), parts(15000)},
		{"SUM", row(box(1, 2, "x"), 3), 6}, {"MEDIAN", row(box(1, 5, 2)), 2}, {"INDEX", row(box(1, "x"), 2, 1), "x"}, {"MATCH", row("x", box(1, "x")), 2}, {"JOIN", row("-", box(1, true)), "1-TRUE"}, {"JOIN", row("12345678", 1, 2), api.CodeLong}, {"ROWS", row(1), api.CodeArg},
	})
}

// P11.2: of a name that nobody knows CodeArg, whatever stands beside it.
func TestCallOther(t *testing.T) {
	table := New()
	for _, name := range otherNames() {
		for _, args := range [][]api.Arg{nil, {}, row(1), row(true, 1, 2), row(api.CodeDiv), row(box(1)), row(api.CodeCycle, "x"), wrongArgs()[:1], make([]api.Arg, 16), make([]api.Arg, 40)} {
			for _, bound := range []int{-1, 0, 8, 1025} {
				if v := table.Call(name, args, bound); v != fault(api.CodeArg) {
					t.Errorf("%.20q(%s) = %s", name, brief(args), brief(v))
				}
			}
		}
	}
}

// Two tables beside each other: what one is asked is nothing to the other.
func TestTwoTables(t *testing.T) {
	a, b := New(), New()
	if a == nil || b == nil || a == b {
		t.Fatal("New() is a table of its own")
	}
	names := a.Names()
	clear(names)
	for i, name := range allNames() {
		if i%2 == 0 {
			a, b = b, a
		}
		if !a.Known(name) || !b.Known(name) || a.Known("NONE") || b.Known("") {
			t.Errorf("Known(%s) of two tables", name)
		}
		if a.Call("IF", row(true, i, 2), 8) != wholes(int64(i)) || b.Call("IF", row(false, i, 2), 8) != wholes(2) {
			t.Error("IF of two tables")
		}
	}
	if !slices.Equal(a.Names(), b.Names()) || len(a.Names()) != 66 {
		t.Error("Names() of two tables")
	}
}
