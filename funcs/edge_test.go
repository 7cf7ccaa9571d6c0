package funcs

import (
	"math"
	"math/rand"
	"slices"
	"strings"
	"testing"

	"oriel/api"
)

// P11.2 and each row of the table: values of every kind in each place, held against the model.
func TestKinds(t *testing.T) {
	table := New()
	for name, count := range counts() {
		for _, a := range values() {
			models(t, table, name, row(a))
			for _, b := range values() {
				models(t, table, name, row(a, b))
				if count[1] < 3 {
					continue
				}
				for _, c := range fewValues() {
					models(t, table, name, row(a, b, c))
				}
			}
		}
	}
}

// P11.2 and each row of the table: all fours of a few values where so many are taken, and many by chance.
func TestMany(t *testing.T) {
	table, rnd := New(), rand.New(rand.NewSource(111))
	set := fewValues()
	for _, name := range []string{"AND", "OR", "XOR", "CHOOSE", "IF", "IFERR"} {
		for i := range len(set) * len(set) * len(set) * len(set) {
			models(t, table, name, row(set[i%12], set[i/12%12], set[i/144%12], set[i/1728]))
		}
		for range 5000 {
			var args []api.Arg
			// Without Faults and texts, but for a few: else these would be nearly all answers.
			kinds := 8
			if rnd.Intn(3) == 0 {
				kinds = len(set)
			}
			for range rnd.Intn(19) {
				args = append(args, row(set[rnd.Intn(kinds)])...)
			}
			if name == "CHOOSE" && len(args) > 0 {
				args[0].Value = wholes(int64(rnd.Intn(18)))
			}
			models(t, table, name, args)
		}
	}
}

// P11.2: as few and as many arguments as each takes, one fewer and one more, and far more.
func TestCount(t *testing.T) {
	table := New()
	for name, count := range counts() {
		for n := range 40 {
			for _, v := range values() {
				args := slices.Repeat(row(v), n)
				models(t, table, name, args)
				if v := table.Call(name, args, 8); (n < count[0] || n > count[1]) && v != fault(api.CodeArg) {
					t.Errorf("%s of %d arguments = %s", name, n, brief(v))
				}
			}
		}
		calls(t, api.CodeArg, name)
		calls(t, api.CodeArg, name, make([]api.Arg, 1<<16)...)
	}
	for _, n := range []int{1, 16} {
		calls(t, true, "AND", slices.Repeat(row(1), n)...)
		calls(t, true, "OR", slices.Repeat(row(1), n)...)
		calls(t, n%2 == 1, "XOR", slices.Repeat(row(1), n)...)
	}
	calls(t, 1, "CHOOSE", slices.Repeat(row(1), 16)...)
	calls(t, api.CodeArg, "CHOOSE", slices.Repeat(row(1), 17)...)
	calls(t, api.CodeArg, "AND", slices.Repeat(row(1), 17)...)
}

// P11.2: a rectangle in each place, also one of a single cell, is not taken; nor is an argument that may not be, of each kind, in each place, whatever stands beside it.
func TestWrongArgs(t *testing.T) {
	table := New()
	for name, count := range counts() {
		for n := count[0]; n <= count[1]; n++ {
			for at := range n {
				for _, beside := range []any{1, true, api.CodeDiv, "x", nil} {
					args := slices.Repeat(row(beside), n)
					for _, wrong := range append(wrongArgs(), boxes()...) {
						args[at] = wrong
						if v := table.Call(name, args, 8); v != fault(api.CodeArg) {
							t.Fatalf("%s(%s) = %s", name, brief(args), brief(v))
						}
					}
				}
			}
		}
	}
	// A single argument's empty entries are none.
	calls(t, 2, "IF", api.Arg{Value: truth(true), Entries: []api.Entry{}}, api.Arg{Value: wholes(2), Entries: make([]api.Entry, 0, 3)})
}

// The row IF: with two and with three, what is chosen, and what is not.
func TestIf(t *testing.T) {
	for c := api.CodeCycle; c <= api.CodeArg; c++ {
		checks(t, []ask{
			{"IF", row(c, 1), c}, {"IF", row(c, 1, 2), c}, {"IF", row(c, api.CodeDiv, api.CodeMiss), c}, {"IF", row(true, c), c}, {"IF", row(true, c, 2), c}, {"IF", row(true, 1, c), 1},
			{"IF", row(false, c), false}, {"IF", row(false, c, 2), 2}, {"IF", row(false, 1, c), c}, {"IF", row("x", c, c), api.CodeType},
		})
	}
	checks(t, []ask{
		{"IF", row(nil, 1), false}, {"IF", row(nil, 1, 2), 2}, {"IF", row(nil, 1, nil), nil}, {"IF", row(true, nil), nil}, {"IF", row(true, nil, 2), nil}, {"IF", row(parts(1), 1, 2), 1}, {"IF", row(parts(-1), 1), 1}, {"IF", row(0, 1), false},
		{"IF", row(parts(math.MaxInt64), "a", "b"), "a"}, {"IF", row(parts(-math.MaxInt64), "a", "b"), "a"}, {"IF", row("", 1, 2), api.CodeType}, {"IF", row("TRUE", 1, 2), api.CodeType}, {"IF", row("FALSE", 1), api.CodeType}, {"IF", row("1", 1, 2), api.CodeType}, {"IF", row("0", 1), api.CodeType},
		{"IF", row(false, true, true), true}, {"IF", row(true, false, true), false},
	})
}

// The rows AND, OR, XOR: the first Fault ahead of all truths, then each truth, also where it could make no difference.
func TestTruths(t *testing.T) {
	for _, name := range []string{"AND", "OR", "XOR"} {
		checks(t, []ask{
			{name, row("x", api.CodeNum), api.CodeNum}, {name, row("x", 1, api.CodeMiss, api.CodeNum), api.CodeMiss}, {name, row(api.CodeDiv, "x"), api.CodeDiv}, {name, row(api.CodeNum, api.CodeDiv), api.CodeNum}, {name, row(api.CodeDiv, api.CodeNum), api.CodeDiv},
			{name, row(1, api.CodeCycle), api.CodeCycle}, {name, row(0, api.CodeArg), api.CodeArg}, {name, row(0, "x"), api.CodeType}, {name, row(1, "x"), api.CodeType}, {name, row("x", 0), api.CodeType}, {name, row(""), api.CodeType}, {name, row("TRUE"), api.CodeType}, {name, row("1", "0"), api.CodeType}, {name, row(1, 0, 1, "FALSE"), api.CodeType},
			{name, row(1), true}, {name, row(0), false}, {name, row(nil), false}, {name, row(true), true}, {name, row(false), false}, {name, row(parts(1)), true}, {name, row(parts(-math.MaxInt64)), true},
			{name, append(slices.Repeat(row("x"), 15), row(api.CodeLong)...), api.CodeLong}, {name, append(slices.Repeat(row(0), 15), row("x")...), api.CodeType}, {name, append(slices.Repeat(row(1), 15), row("x")...), api.CodeType},
		})
		for c := api.CodeCycle; c <= api.CodeArg; c++ {
			calls(t, c, name, row(c)...)
			calls(t, c, name, row("x", c, api.CodeArg-c+1)...)
		}
	}
}

// The rows AND, OR, XOR: all rows of truths of up to ten, and one true or one false of up to 16.
func TestAllTruths(t *testing.T) {
	table := New()
	check := func(list []bool) {
		var args []api.Arg
		yes := 0
		for i, is := range list {
			v := []api.Value{truth(false), wholes(0), {}}[i%3]
			if is {
				yes++
				v = []api.Value{truth(true), parts(1), wholes(-7)}[i%3]
			}
			args = append(args, api.Arg{Value: v})
		}
		for name, want := range map[string]bool{"AND": yes == len(list), "OR": yes > 0, "XOR": yes%2 == 1} {
			if v := table.Call(name, args, 8); v != truth(want) {
				t.Errorf("%s of %v = %s", name, list, brief(v))
			}
		}
	}
	for n := 1; n <= 10; n++ {
		for bits := range 1 << n {
			list := make([]bool, n)
			for i := range list {
				list[i] = bits>>i&1 == 1
			}
			check(list)
		}
	}
	for n := 1; n <= 16; n++ {
		for _, is := range []bool{false, true} {
			alike := slices.Repeat([]bool{is}, n)
			check(alike)
			for i := range n {
				alike[i] = !is
				check(alike)
				alike[i] = is
			}
			for i := range n {
				alike[i] = !is
				check(alike)
			}
		}
	}
}

// The row NOT.
func TestNot(t *testing.T) {
	for c := api.CodeCycle; c <= api.CodeArg; c++ {
		calls(t, c, "NOT", row(c)...)
	}
	checks(t, []ask{
		{"NOT", row(true), false}, {"NOT", row(false), true}, {"NOT", row(nil), true}, {"NOT", row(1), false}, {"NOT", row(parts(1)), false}, {"NOT", row(parts(-1)), false},
		{"NOT", row(parts(math.MaxInt64)), false}, {"NOT", row(""), api.CodeType}, {"NOT", row("TRUE"), api.CodeType}, {"NOT", row("0"), api.CodeType},
	})
}

// The row IFERR: what is no Fault is itself, of every kind; a Fault gives way also to another one.
func TestIferr(t *testing.T) {
	for _, x := range values() {
		for _, y := range values() {
			want := x
			if x.Tag == api.Fault {
				want = y
			}
			calls(t, want, "IFERR", row(x, y)...)
		}
	}
	checks(t, []ask{{"IFERR", row(api.CodeCycle, 7), 7}, {"IFERR", row(api.CodeDiv, api.CodeMiss), api.CodeMiss}, {"IFERR", row(1, api.CodeDiv), 1}, {"IFERR", row(nil, api.CodeDiv), nil}, {"IFERR", row("", 1), ""}})
}

// The rows ISERR to ISBOOL and TYPE: each kind, written down.
func TestTags(t *testing.T) {
	names := []string{"ISBLANK", "ISNUM", "ISTEXT", "ISBOOL", "ISERR"}
	lists := [][]any{{nil}, {0, 1, -1, parts(1), parts(math.MaxInt64)}, {"", "x", "1", "TRUE", "#DIV!"}, {true, false}, {api.CodeCycle, api.CodeNum, api.CodeDiv, api.CodeType, api.CodeRange, api.CodeMiss, api.CodeLong, api.CodeArg}}
	for tag, list := range lists {
		for _, x := range list {
			for i, name := range names {
				calls(t, i == tag, name, row(x)...)
			}
			calls(t, tag, "TYPE", row(x)...)
		}
	}
}

// The rows ERRNO and ERR: each Code, each whole number around them, what lies between, and what is far away.
func TestCodes(t *testing.T) {
	for c := api.CodeCycle; c <= api.CodeArg; c++ {
		calls(t, int(c), "ERRNO", row(c)...)
		calls(t, c, "ERR", row(c)...)
	}
	for n := int64(-100); n <= 300; n++ {
		var want any = api.CodeArg
		if n >= 2 && n <= 8 {
			want = api.Code(n)
		}
		calls(t, want, "ERR", row(wholes(n))...)
		for _, rest := range []int64{1, 5000, 9999} {
			calls(t, api.CodeArg, "ERR", row(parts(n*10000+rest))...)
		}
	}
	for _, x := range []int64{math.MaxInt64, -math.MaxInt64, 922337203685477 * 10000, -922337203685477 * 10000, (1<<32 + 3) * 10000, (3 - 1<<32) * 10000, 1<<32 + 30000, (256 + 3) * 10000, (1<<16 + 3) * 10000} {
		calls(t, api.CodeArg, "ERR", row(parts(x))...)
	}
	checks(t, []ask{{"ERR", row(true), api.CodeArg}, {"ERR", row(false), api.CodeArg}, {"ERR", row(nil), api.CodeArg}, {"ERR", row(""), api.CodeType}, {"ERR", row("3"), api.CodeType}, {"ERR", row("TRUE"), api.CodeType}})
	for _, v := range values() {
		if v.Tag != api.Fault {
			calls(t, api.CodeArg, "ERRNO", row(v)...)
		}
	}
}

// The row CHOOSE: n at each place, ahead of the first, one beyond the last, far beyond, with parts, and of other kinds.
func TestChoose(t *testing.T) {
	for more := 1; more <= 15; more++ {
		args := row(0)
		for i := range more {
			args = append(args, row(string(rune('a'+i)))...)
		}
		for n := int64(-3); n <= 20; n++ {
			var want any = api.CodeRange
			if n >= 1 && n <= int64(more) {
				want = string(rune('a' + n - 1))
			}
			args[0].Value = wholes(n)
			calls(t, want, "CHOOSE", args...)
			for _, rest := range []int64{1, 5000, 9999} {
				args[0].Value = parts(n*10000 + rest)
				calls(t, api.CodeArg, "CHOOSE", args...)
			}
		}
		for x, want := range map[int64]api.Code{
			math.MaxInt64: api.CodeArg, -math.MaxInt64: api.CodeArg, 922337203685477 * 10000: api.CodeRange, -922337203685477 * 10000: api.CodeRange,
			(1<<32 + 1) * 10000: api.CodeRange, (1 - 1<<32) * 10000: api.CodeRange, (1<<16 + 1) * 10000: api.CodeRange, (256 + 1) * 10000: api.CodeRange,
		} {
			args[0].Value = parts(x)
			calls(t, want, "CHOOSE", args...)
		}
		for c := api.CodeCycle; c <= api.CodeArg; c++ {
			args[0].Value = fault(c)
			calls(t, c, "CHOOSE", args...)
		}
	}
	checks(t, []ask{
		{"CHOOSE", row(true, 5, 6), 5}, {"CHOOSE", row(false, 5, 6), api.CodeRange}, {"CHOOSE", row(nil, 5, 6), api.CodeRange}, {"CHOOSE", row("1", 5, 6), api.CodeType}, {"CHOOSE", row("", 5), api.CodeType}, {"CHOOSE", row("TRUE", 5), api.CodeType},
		{"CHOOSE", row(1, api.CodeCycle), api.CodeCycle}, {"CHOOSE", row(2, api.CodeCycle, nil), nil}, {"CHOOSE", row(2, 1, api.CodeMiss), api.CodeMiss}, {"CHOOSE", row(1, 1, api.CodeMiss), 1}, {"CHOOSE", row(3, api.CodeDiv, api.CodeMiss), api.CodeRange}, {"CHOOSE", row(2, 5), api.CodeRange}, {"CHOOSE", row(1, true), true},
	})
}

// The row ASK: it takes one argument, and answers CodeArg whatever that is.
func TestAsk(t *testing.T) {
	table := New()
	for _, v := range values() {
		calls(t, api.CodeArg, "ASK", row(v)...)
		calls(t, api.CodeArg, "ASK", row(v, v)...)
	}
	calls(t, api.CodeArg, "ASK")
	calls(t, api.CodeArg, "ASK", box(1))
	if !table.Known("ASK") || !table.Takes("ASK", []bool{false}) || table.Takes("ASK", nil) || table.Takes("ASK", []bool{true}) || table.Takes("ASK", []bool{false, false}) {
		t.Error("ASK takes one single argument")
	}
}

// P11.2: the functions of this table don't look at the bound of texts; those of texts and aggs do.
func TestTextBound(t *testing.T) {
	table := New()
	long := strings.Repeat("longer", 1000)
	for _, bound := range []int{math.MinInt, -1, 0, 1, 5, 1023, 1024, 1025, math.MaxInt} {
		for _, a := range []ask{
			{"IF", row(true, long), long}, {"IF", row(true, long, 1), long}, {"IF", row(false, 1, long), long}, {"IFERR", row(long, 1), long}, {"IFERR", row(api.CodeDiv, long), long}, {"CHOOSE", row(1, long), long}, {"CHOOSE", row(3, 1, 2, long), long},
			{"IF", row(long, 1), api.CodeType}, {"ISTEXT", row(long), true}, {"TYPE", row(long), 2}, {"ERR", row(3), api.CodeDiv}, {"ERRNO", row(api.CodeDiv), 3}, {"AND", row(1), true}, {"OR", row(0), false}, {"XOR", row(long), api.CodeType}, {"NOT", row(0), true},
			{"ISERR", row(api.CodeDiv), true}, {"ISBLANK", row(nil), true}, {"ISNUM", row(1), true}, {"ISBOOL", row(true), true}, {"ASK", row(1), api.CodeArg}, {"ABS", row(-1), 1}, {"NONE", row(1), api.CodeArg}, {"IF", row(1), api.CodeArg},
		} {
			if v := table.Call(a.name, a.args, bound); v != wanted(a.want) {
				t.Errorf("%s with the bound %d = %s", a.name, bound, brief(v))
			}
		}
		for _, a := range []ask{{"LEN", row("ab"), 2}, {"EXACT", row("a", "a"), true}, {"SUM", row(1, 2), 3}, {"COUNT", row("x"), 0}, {"LEN", row(api.CodeDiv), api.CodeDiv}} {
			if bound < 0 || bound > 1024 {
				a.want = api.CodeArg
			}
			if v := table.Call(a.name, a.args, bound); v != wanted(a.want) {
				t.Errorf("%s with the bound %d = %s", a.name, bound, brief(v))
			}
		}
		for _, a := range []ask{{"UPPER", row("ab"), "AB"}, {"JOIN", row("", "a", "b"), "ab"}} {
			switch {
			case bound < 0 || bound > 1024:
				a.want = api.CodeArg
			case bound < 2:
				a.want = api.CodeLong
			}
			if v := table.Call(a.name, a.args, bound); v != wanted(a.want) {
				t.Errorf("%s with the bound %d = %s", a.name, bound, brief(v))
			}
		}
	}
}

// P11.2: the order of what is wrong.
func TestOrder(t *testing.T) {
	arg, div := api.CodeArg, api.CodeDiv
	broken := api.Value{Num: 1}
	checks(t, []ask{
		// A name or arguments that are not taken, ahead of Faults.
		{"NONE", row(div), arg}, {"IF", row(div), arg}, {"IF", row(div, div, div, div), arg}, {"NOT", row(div, div), arg}, {"NOT", row(api.Arg{Many: true, Value: fault(div)}), arg}, {"CHOOSE", row(div), arg}, {"ERR", row(div, 1), arg}, {"IFERR", row(div), arg}, {"ISERR", row(div, div), arg},
		// An argument that may not be, also behind a Fault, a text, and where it would not be chosen.
		{"IF", row(div, broken), arg}, {"IF", row(div, 1, broken), arg}, {"IF", row(true, 1, broken), arg}, {"IF", row(false, broken, 1), arg}, {"IF", row("x", broken, 1), arg}, {"IF", row(broken, div, 1), arg},
		{"IFERR", row(1, broken), arg}, {"IFERR", row(broken, 1), arg}, {"IFERR", row(div, broken), arg}, {"IFERR", row(fault(9), 1), arg}, {"ISERR", row(fault(9)), arg}, {"ISERR", row(fault(0)), arg}, {"TYPE", row(api.Value{Tag: 5}), arg}, {"ERRNO", row(fault(9)), arg}, {"ISBLANK", row(broken), arg},
		{"AND", row(div, broken), arg}, {"OR", row("x", broken), arg}, {"XOR", row(broken, div), arg}, {"CHOOSE", row(1, 1, broken), arg}, {"CHOOSE", row(9, 1, broken), arg}, {"CHOOSE", row(div, broken), arg}, {"CHOOSE", row(api.CodeMiss, box(1)), arg}, {"IF", row(true, 1, box(1)), arg}, {"IFERR", row(1, box(1)), arg},
		// Of n its Code, then whether it is whole, then whether it is in range.
		{"CHOOSE", row("x", 1), api.CodeType}, {"CHOOSE", row(div, 1), div}, {"CHOOSE", row(parts(95000), 1), arg}, {"CHOOSE", row(parts(-5000), 1), arg}, {"CHOOSE", row(parts(15000), 1, 2), arg}, {"CHOOSE", row(9, 1), api.CodeRange}, {"CHOOSE", row(div, api.CodeMiss), div},
		{"ERR", row(div), div}, {"ERR", row(api.CodeCycle), api.CodeCycle}, {"ERR", row("x"), api.CodeType}, {"ERR", row(parts(35000)), arg}, {"ERR", row(parts(105000)), arg},
	})
}
