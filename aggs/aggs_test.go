package aggs

import (
	"math/rand"
	"slices"
	"strings"
	"testing"

	"oriel/api"
)

// The chapter's examples.
func TestExamples(t *testing.T) {
	div := api.CodeDiv
	a, b := box("A1:A4", 2, "x", nil, 5), box("B1:B4", 1, 2, 3, div)
	ab := box("A1:B4", 2, 1, "x", 2, nil, 3, 5, div)
	gap, middle := box("A3:A3"), box("A2:A3", "x")
	blank := api.Value{}
	checks(t, 8, []ask{
		{"SUM", row(a), 7}, {"SUM", row(a, 3), 10}, {"SUM", row(gap), 0}, {"SUM", row(ab), div}, {"SUM", row("x", true), 0},
		{"COUNT", row(ab), 5}, {"COUNTA", row(ab), 7}, {"BLANKS", row(ab), 1}, {"COUNT", row(middle), 0},
		{"MIN", row(a), 2}, {"MAX", row(a), 5}, {"AVG", row(a), parts(35000)}, {"MEDIAN", row(a, 0), 2}, {"MAX", row(middle), api.CodeMiss}, {"PROD", row(a), 10},
		{"COUNTIF", row(a, 2), 1}, {"COUNTIF", row(a, "x"), 1}, {"COUNTIF", row(a, blank), 1}, {"COUNTIF", row(a, "2"), 0},
		{"SUMIF", row(box("A1:A3", 2, "x"), "x", box("B1:B3", 1, 2, 3)), 2}, {"SUMIF", row(a, 5, b), div}, {"SUMIF", row(box("A1:A2", 2, "x"), 2, box("B1:B3", 1, 2, 3)), api.CodeArg},
		{"MATCH", row(5, a), 4}, {"MATCH", row(9, a), api.CodeMiss}, {"MATCH", row(2, ab), api.CodeArg}, {"MATCH", row(blank, a), 3},
		{"LOOKUP", row("x", a, b), 2}, {"LOOKUP", row(5, a, b), div}, {"LOOKUP", row(2, a, box("B1:B2", 1, 2)), api.CodeArg},
		{"INDEX", row(ab, 2, 1), "x"}, {"INDEX", row(ab, 3, 1), blank}, {"INDEX", row(ab, 5, 1), api.CodeRange}, {"INDEX", row(ab, parts(5000), 1), api.CodeArg}, {"INDEX", row(ab, 4, 2), div},
		{"LARGE", row(a, 1), 5}, {"LARGE", row(a, 2), 2}, {"LARGE", row(a, 3), api.CodeRange},
		{"JOIN", row("-", a), "2-x-5"}, {"JOIN", row("", a, true), "2x5TRUE"}, {"JOIN", row("12345", a), api.CodeLong},
		{"ROWS", row(ab), 4}, {"COLS", row(ab), 2}, {"ROWS", row(1), api.CodeArg}, {"SUM", nil, api.CodeArg}, {"SUM", row(api.CodeNum, box("B4:B4", div)), api.CodeNum},
	})
}

// names are the table's.
func names() []string {
	var list []string
	for name := range forms() {
		list = append(list, name)
	}
	slices.Sort(list)
	return list
}

// otherNames are none of the table's.
func otherNames() []string {
	list := []string{"", " ", "NONE", "ABS", "LEN", "CONCAT", "IF", "ASK", "TRUE", "AVERAGE", "PRODUCT", "COLUMNS", "SUM ", " SUM", "SUM\x00", "\xff", "SÜM", "0", strings.Repeat("SUM", 1<<16)}
	for _, name := range names() {
		list = append(list, strings.ToLower(name), name+name, name+"1", name[1:])
		if short := name[:len(name)-1]; short != "COUNT" {
			list = append(list, short)
		}
	}
	return list
}

// P10.1: just the names of the table are known.
func TestKnown(t *testing.T) {
	if len(names()) != 18 {
		t.Fatal("the table has 18 names")
	}
	for _, name := range names() {
		if !Known(name) {
			t.Errorf("%s is not known", name)
		}
	}
	for _, name := range otherNames() {
		if Known(name) {
			t.Errorf("%.20q is known", name)
		}
	}
}

// patterns are rows of places at which rectangles stand: all short ones, and longer ones that differ from all alike at one place at most.
func patterns() [][]bool {
	list := [][]bool{nil, {}}
	for n := 1; n <= 6; n++ {
		for bits := range 1 << n {
			rects := make([]bool, n)
			for i := range rects {
				rects[i] = bits>>i&1 == 1
			}
			list = append(list, rects)
		}
	}
	for n := 7; n <= 20; n++ {
		for _, is := range []bool{false, true} {
			alike := slices.Repeat([]bool{is}, n)
			list = append(list, alike)
			for i := range n {
				one := slices.Clone(alike)
				one[i] = !is
				list = append(list, one)
			}
		}
	}
	return append(list, make([]bool, 1<<20))
}

// P10.1: so many arguments are taken, with rectangles just where they may stand, and where they must.
func TestTakes(t *testing.T) {
	for _, rects := range patterns() {
		for name, f := range forms() {
			if Takes(name, rects) != f.takes(rects) {
				t.Errorf("Takes(%s, %s) = %v", name, brief(rects), !f.takes(rects))
			}
		}
	}
	for _, name := range otherNames() {
		for _, rects := range patterns()[:20] {
			if Takes(name, rects) {
				t.Errorf("Takes(%.20q, %s)", name, brief(rects))
			}
		}
	}
}

// P10.1: what each row of the table takes, written down.
func TestTakesWritten(t *testing.T) {
	letters := func(s string) []bool {
		var rects []bool
		for _, b := range []byte(s) {
			rects = append(rects, b == 'r')
		}
		return rects
	}
	for name, list := range map[string]string{
		"BLANKS": "r", "ROWS": "r", "COLS": "r", "COUNTIF": "rv", "SUMIF": "rvr", "MATCH": "vr", "LOOKUP": "vrr", "INDEX": "rvv", "LARGE": "rv",
		"JOIN": "vv vr vvr vrrv vvvvvvvvvvvvvvvv vrrrrrrrrrrrrrrr vvvvvvvvvvvvvvvr", "SUM": "v r vr rv rrr vvvvvvvvvvvvvvvv rrrrrrrrrrrrrrrr", "COUNTA": "v r vvvvvvvvvvvvvvvr",
	} {
		for _, s := range strings.Fields(list) {
			if !Takes(name, letters(s)) {
				t.Errorf("Takes(%s, %s) = false", name, s)
			}
		}
	}
	for name, list := range map[string]string{
		"BLANKS": "v rr rv vr", "ROWS": "v rr rv", "COLS": "v rr vr", "COUNTIF": "r v vr rr vv rvr rvv", "SUMIF": "rv rvv rrr vvr rrv vrr rvrr rvrv r", "MATCH": "rv rr vv v r vrr vrv", "LOOKUP": "vr rvr vvr vrv rrr vrrr vrrv", "INDEX": "rv rrv rvr vvv rvvv r", "LARGE": "r rr vr vv rvv",
		"JOIN": "v r rv rr rvv vvvvvvvvvvvvvvvvv vrrrrrrrrrrrrrrrr rrrrrrrrrrrrrrrr", "SUM": "vvvvvvvvvvvvvvvvv rrrrrrrrrrrrrrrrr", "COUNTA": "vvvvvvvvvvvvvvvvr",
	} {
		for _, s := range strings.Fields(list) {
			if Takes(name, letters(s)) {
				t.Errorf("Takes(%s, %s) = true", name, s)
			}
		}
		if Takes(name, nil) || Takes(name, []bool{}) {
			t.Errorf("Takes(%s, none) = true", name)
		}
	}
}

// P10.2: a call refuses what Takes refuses, whatever stands in the arguments.
func TestCallTakes(t *testing.T) {
	singles, rects := row(api.Value{}, 1, "x", api.CodeDiv), row(box("A1:A1"), box("A1:A1", 1), box("B2:C3", 1, "x"), box("A1:A1", api.CodeDiv))
	for _, pattern := range patterns() {
		for kind := range singles {
			args := slices.Repeat(singles[kind:kind+1], len(pattern))
			for i, is := range pattern {
				if is {
					args[i] = rects[kind]
				}
			}
			for _, name := range append(names(), "NONE", "") {
				if !Takes(name, pattern) {
					calls(t, 8, api.CodeArg, name, args...)
				} else if v := Call(name, args, 8); kind < 2 && v == fault(api.CodeArg) && name != "LOOKUP" {
					t.Errorf("%s refuses %s", name, shown(args))
				}
			}
		}
	}
	for _, name := range otherNames() {
		for n := range 3 {
			calls(t, 8, api.CodeArg, name, slices.Repeat(singles[:1], n)...)
			calls(t, 8, api.CodeArg, name, slices.Repeat(rects[1:2], n)...)
		}
	}
}

// P10.2: single arguments of each kind as items: texts, truths and Blank are passed over, they are not taken for numbers.
func TestSingleItems(t *testing.T) {
	blank, half := api.Value{}, parts(5000)
	checks(t, 16, []ask{
		{"SUM", row(3), 3}, {"SUM", row("3"), 0}, {"SUM", row(true), 0}, {"SUM", row(blank), 0}, {"SUM", row(half, true, "1", blank, -2), parts(-15000)},
		{"PROD", row(3), 3}, {"PROD", row("3"), 1}, {"PROD", row(false), 1}, {"PROD", row(blank), 1}, {"PROD", row(half, false, "0", blank, -2), -1},
		{"MIN", row(3), 3}, {"MIN", row("3"), api.CodeMiss}, {"MIN", row(true), api.CodeMiss}, {"MIN", row(blank), api.CodeMiss}, {"MIN", row(half, false, "0", blank, 2), half},
		{"MAX", row(-3), -3}, {"MAX", row("3"), api.CodeMiss}, {"MAX", row(true), api.CodeMiss}, {"MAX", row(blank), api.CodeMiss}, {"MAX", row(-2, true, "0", blank, -3), -2},
		{"AVG", row(3), 3}, {"AVG", row("3"), api.CodeMiss}, {"AVG", row(true), api.CodeMiss}, {"AVG", row(blank), api.CodeMiss}, {"AVG", row(2, true, "0", blank, 4), 3},
		{"MEDIAN", row(3), 3}, {"MEDIAN", row("3"), api.CodeMiss}, {"MEDIAN", row(true), api.CodeMiss}, {"MEDIAN", row(blank), api.CodeMiss}, {"MEDIAN", row(2, true, "0", blank, 5, false, 9), 5},
		{"COUNT", row(3), 1}, {"COUNT", row("3"), 0}, {"COUNT", row(true), 0}, {"COUNT", row(blank), 0}, {"COUNT", row(2, true, "0", blank, 0), 2},
		{"COUNTA", row(3), 1}, {"COUNTA", row(""), 1}, {"COUNTA", row(false), 1}, {"COUNTA", row(blank), 0}, {"COUNTA", row(2, true, "", blank, 0), 4},
		{"JOIN", row("-", 3), "3"}, {"JOIN", row("-", ""), ""}, {"JOIN", row("-", false), "FALSE"}, {"JOIN", row("-", blank), ""}, {"JOIN", row("-", half, true, "", blank, "x"), "0.5-TRUE--x"},
		{"JOIN", row(blank, 1, 2), "12"}, {"JOIN", row(half, 1, 2), "10.52"}, {"JOIN", row(true, 1, 2, 3), "1TRUE2TRUE3"}, {"JOIN", row(0, "a", "b"), "a0b"},
	})
	for name, f := range forms() {
		for c := api.CodeCycle; c <= api.CodeArg; c++ {
			for _, n := range f.few() {
				for i := range n {
					if f.places[i] != 'r' {
						args := f.plain(n)
						args[i] = row(c)[0]
						calls(t, 8, c, name, args...)
					}
				}
			}
		}
	}
}

// P10.2: entries of each kind as items; cells without an entry are none.
func TestRectangleItems(t *testing.T) {
	blank, half := api.Value{}, parts(5000)
	mixed := box("B2:D3", half, true, "1", blank, nil, -2)
	wrong := box("A1:C1", 1, api.CodeMiss, api.CodeDiv)
	checks(t, 16, []ask{
		{"SUM", row(mixed), parts(-15000)}, {"PROD", row(mixed), -1}, {"MIN", row(mixed), -2}, {"MAX", row(mixed), half}, {"AVG", row(mixed), parts(-7500)}, {"MEDIAN", row(mixed), parts(-7500)}, {"COUNT", row(mixed), 2}, {"COUNTA", row(mixed), 4}, {"BLANKS", row(mixed), 2}, {"JOIN", row(",", mixed), "0.5,TRUE,1,-2"},
		{"SUM", row(wrong), api.CodeMiss}, {"PROD", row(wrong), api.CodeMiss}, {"MIN", row(wrong), api.CodeMiss}, {"MAX", row(wrong), api.CodeMiss}, {"AVG", row(wrong), api.CodeMiss}, {"MEDIAN", row(wrong), api.CodeMiss}, {"LARGE", row(wrong, 1), api.CodeMiss}, {"JOIN", row(",", wrong), api.CodeMiss},
		{"COUNT", row(wrong), 1}, {"COUNTA", row(wrong), 3}, {"BLANKS", row(wrong), 0}, {"COUNTIF", row(wrong, 1), 1}, {"COUNTIF", row(wrong, blank), 0}, {"MATCH", row(1, wrong), 1}, {"MATCH", row(2, wrong), api.CodeMiss}, {"LOOKUP", row(1, wrong, wrong), 1}, {"INDEX", row(wrong, 1, 1), 1}, {"INDEX", row(wrong, 1, 2), api.CodeMiss}, {"INDEX", row(wrong, 1, 3), api.CodeDiv},
		{"SUM", row(mixed, mixed), -3}, {"SUM", row(1, mixed, 2, mixed), 0}, {"COUNTA", row(mixed, blank, mixed, "x"), 9}, {"COUNT", row(wrong, mixed, 7, wrong), 5}, {"JOIN", row(" ", "a", box("A1:A2", "b", "c"), "d", box("A1:B1", nil, "e")), "a b c d e"},
	})
}

// P10.2 and each row of the table: all rows of up to two arguments, and many of three, of each kind, held against the model.
func TestAllKinds(t *testing.T) {
	set := kinds()
	for _, name := range append(names(), "NONE", "") {
		models(t, 8, name, nil)
		f := forms()[name]
		for _, a := range set {
			models(t, 8, name, []api.Arg{a})
			for _, b := range set {
				models(t, 8, name, []api.Arg{a, b})
				for _, c := range set {
					if f.takes([]bool{a.Many, b.Many, c.Many}) {
						models(t, 8, name, []api.Arg{a, b, c})
					}
				}
			}
		}
	}
}

// P10.2 and each row of the table: random arguments of the kinds that it takes, held against the model.
func TestRandom(t *testing.T) {
	rnd := rand.New(rand.NewSource(10))
	for _, name := range names() {
		f := forms()[name]
		for round := range 6000 {
			n := f.least + rnd.Intn(min(4, len(f.places)-f.least+1))
			height, width := 1+rnd.Intn(4), 1+rnd.Intn(4)
			if rnd.Intn(3) > 0 {
				height, width = 1, 1+rnd.Intn(6)
			}
			if rnd.Intn(2) == 0 {
				height, width = width, height
			}
			faults := round%4 == 0
			var args []api.Arg
			for _, place := range f.places[:n] {
				switch {
				case place == 'r' || place == 'x' && rnd.Intn(2) == 0:
					if rnd.Intn(20) == 0 {
						height = 1 + rnd.Intn(3)
					}
					args = append(args, randomBox(rnd, height, width, faults))
				case place == 'n' && rnd.Intn(8) > 0:
					args = append(args, row(rnd.Intn(8)-1)...)
				default:
					args = append(args, row(randomValue(rnd, faults))...)
				}
			}
			models(t, rnd.Intn(60), name, args)
		}
	}
}

// P10.2: an argument that may not be is refused at each place, in the place of a single one and of a rectangle, whatever stands beside it.
func TestWrongArgs(t *testing.T) {
	for name, f := range forms() {
		for _, n := range f.few() {
			for i := range n {
				for _, a := range wrongArgs() {
					args := f.plain(n)
					args[i] = a
					calls(t, 8, api.CodeArg, name, args...)
				}
			}
		}
	}
}

// P10.2: a rectangle's argument is right in all that the chapter lets it have.
func TestRightArgs(t *testing.T) {
	blank := api.Value{}
	some := box("B2:C3", blank, nil, blank, 1)
	empty := api.Arg{Many: true, Rect: some.Rect, Entries: []api.Entry{}}
	spare := box("A1:A2", 1, 2)
	spare.Entries = spare.Entries[:1]
	checks(t, 8, []ask{
		{"COUNTA", row(some), 1}, {"BLANKS", row(some), 3}, {"COUNTA", row(empty), 0}, {"BLANKS", row(empty), 4}, {"SUM", row(spare), 1}, {"BLANKS", row(spare), 1}, {"MATCH", row(blank, spare), 2}, {"INDEX", row(spare, 2, 1), blank},
		{"ROWS", row(box(allCells)), 4096}, {"COLS", row(box(allCells)), 256}, {"ROWS", row(box("IV4096:IV4096")), 1}, {"COUNTA", row(api.Arg{Value: text("x"), Entries: []api.Entry{}}), 1},
	})
}
