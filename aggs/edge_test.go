package aggs

import (
	"math"
	"slices"
	"strings"
	"testing"

	"oriel/addr"
	"oriel/api"
)

// P10.2: how many bytes a text may have is looked at ahead of all else: at 0 and 1024 it is right, beyond them not.
func TestTextBound(t *testing.T) {
	wrong := []int{math.MinInt, -1025, -1, 1025, 1026, 1 << 32, math.MaxInt}
	for name, f := range forms() {
		div := f.plain(f.least)
		for i := range div {
			if f.places[i] != 'r' {
				div[i] = row(api.CodeDiv)[0]
			}
		}
		for _, args := range [][]api.Arg{nil, f.plain(f.least), f.plain(len(f.places)), div, make([]api.Arg, f.least), slices.Repeat(row(box("A1:A1", api.CodeDiv)), f.least)} {
			for _, most := range wrong {
				calls(t, most, api.CodeArg, name, args...)
			}
			for _, most := range []int{0, 1, 2, 8, 1023, 1024} {
				models(t, most, name, args)
			}
		}
		for _, most := range []int{0, 1024} {
			if f.places != "r" {
				calls(t, most, api.CodeDiv, name, div...)
			}
		}
	}
	for _, most := range wrong {
		calls(t, most, api.CodeArg, "NONE", row(api.CodeDiv)...)
		calls(t, most, api.CodeArg, "SUM", row(api.CodeDiv)...)
	}
}

// P10.2: only what JOIN makes is held against so many bytes; what the others find is told as it is.
func TestLongTexts(t *testing.T) {
	for _, most := range []int{0, 1, 2, 7, 8, 1023, 1024} {
		just, more := strings.Repeat("x", most), strings.Repeat("x", most+1)
		half, rest := strings.Repeat("x", most/2), strings.Repeat("x", most-most/2)
		checks(t, most, []ask{
			{"JOIN", row("", just), just}, {"JOIN", row("", more), api.CodeLong}, {"JOIN", row("", half, rest), just}, {"JOIN", row("", half, rest, "x"), api.CodeLong}, {"JOIN", row("", box("A1:A3", half, nil, rest)), just}, {"JOIN", row("", box("A1:A3", half, "x", rest)), api.CodeLong},
			{"JOIN", row(just, "", ""), just}, {"JOIN", row(more, "", ""), api.CodeLong}, {"JOIN", row(more, just), just}, {"JOIN", row(more, api.Value{}, just, api.Value{}), just}, {"JOIN", row(more, api.Value{}), ""}, {"JOIN", row(more, box("A1:A3")), ""}, {"JOIN", row(half, "", rest), just}, {"JOIN", row(half, "x", rest), api.CodeLong}, {"JOIN", row(half, rest, "", api.Value{}), just}, {"JOIN", row("", just, "", ""), just},
			{"INDEX", row(box("A1:A2", 1, more), 2, 1), more}, {"LOOKUP", row(more, box("A1:B1", 1, more), box("A2:B2", 2, more+"y")), more + "y"}, {"LOOKUP", row(1, box("A1:A1", 1), box("A2:A2", more)), more},
			{"MATCH", row(more, box("A1:B1", just, more)), 2}, {"COUNTIF", row(box("A1:B1", just, more), more), 1}, {"SUMIF", row(box("A1:B1", just, more), more, box("A1:B1", 1, 2)), 2}, {"COUNTA", row(more, box("A1:A1", more)), 2}, {"SUM", row(more, 1), 1},
		})
	}
	checks(t, 8, []ask{
		{"JOIN", row("", 12345678), "12345678"}, {"JOIN", row("", 123456789), api.CodeLong}, {"JOIN", row("-", 1, 2, 3, 4), "1-2-3-4"}, {"JOIN", row("--", 1, 2, 3, 4), api.CodeLong}, {"JOIN", row("-", 1, 2, 3, 45), "1-2-3-45"}, {"JOIN", row("-", 1, 2, 3, 456), api.CodeLong}, {"JOIN", row("", true, true), "TRUETRUE"}, {"JOIN", row("", true, false), api.CodeLong}, {"JOIN", row("", parts(-highest)), api.CodeLong},
	})
}

// The row JOIN: very long items and very long texts between them are refused, not made.
func TestGreatTexts(t *testing.T) {
	great := strings.Repeat("a", 1<<21)
	list := make([]any, 4096)
	for i := range list {
		list[i] = great
	}
	many := box("A1:A4096", list...)
	checks(t, 1024, []ask{
		{"JOIN", slices.Repeat(row(many), 16)[1:], api.CodeArg}, {"JOIN", append(row(great), slices.Repeat(row(many), 15)...), api.CodeLong}, {"JOIN", row(great, many, api.CodeDiv), api.CodeDiv}, {"JOIN", row(great, many, box("A1:A1", api.CodeDiv)), api.CodeDiv}, {"JOIN", row(great, "a"), "a"}, {"JOIN", row(great, "", ""), api.CodeLong},
		{"INDEX", row(many, 4096, 1), great}, {"MATCH", row(great, many), 1}, {"MATCH", row(great[1:], many), api.CodeMiss}, {"COUNTIF", row(many, great), 4096},
	})
}

// The rows SUM and SUMIF: parts that go past the greatest and the least number and come back, and sums that may not be.
func TestSums(t *testing.T) {
	top, low := parts(highest), parts(-highest)
	checks(t, 8, []ask{
		{"SUM", row(top), top}, {"SUM", row(low), low}, {"SUM", row(top, parts(1)), api.CodeNum}, {"SUM", row(low, parts(-1)), api.CodeNum}, {"SUM", row(top, top), api.CodeNum}, {"SUM", row(low, low), api.CodeNum}, {"SUM", row(top, low), 0}, {"SUM", row(parts(highest-1), parts(1)), top}, {"SUM", row(parts(1-highest), parts(-1)), low},
		{"SUM", row(top, parts(1), parts(-1)), top}, {"SUM", row(low, parts(-1), parts(1)), low}, {"SUM", row(top, top, low), top}, {"SUM", row(low, low, top), low}, {"SUM", row(top, top, top, low, low), top}, {"SUM", row(top, top, low, low), 0}, {"SUM", row(low, top, low, top, parts(-1)), parts(-1)}, {"SUM", row(top, top, parts(2)), api.CodeNum}, {"SUM", row(low, low, parts(-2)), api.CodeNum}, {"SUM", row(low, low, parts(-1)), api.CodeNum},
		{"SUM", append(slices.Repeat(row(top), 8), slices.Repeat(row(low), 8)...), 0}, {"SUM", append(slices.Repeat(row(low), 7), slices.Repeat(row(top), 8)...), top}, {"SUM", slices.Repeat(row(top), 16), api.CodeNum}, {"SUM", slices.Repeat(row(low), 16), api.CodeNum},
		{"SUM", row(box("A1:C1", top, top, low)), top}, {"SUM", row(box("A1:B1", top, parts(1)), "x", parts(-1)), top}, {"SUM", row(box("A1:B1", low, parts(-1))), api.CodeNum}, {"SUM", row(parts(3), parts(-5)), parts(-2)},
		{"SUMIF", row(box("A1:A4", 1, 1, 2, 1), 1, box("B1:B4", top, top, 7, low)), top}, {"SUMIF", row(box("A1:A3", 1, 1, 2), 1, box("B1:B3", top, parts(1), parts(-1))), api.CodeNum}, {"SUMIF", row(box("A1:A3", 1, 1, 1), 1, box("B1:B3", low, parts(-1), parts(1))), low}, {"SUMIF", row(box("A1:A3", 1, 1, 1), 2, box("B1:B3", low, parts(-1), parts(1))), 0}, {"SUMIF", row(box("A1:A2", 1, 1), 1, box("B1:B2", low, parts(-1))), api.CodeNum},
	})
}

// The row PROD: each factor in order, rounded each time; the first that may not be ends it, whatever follows.
func TestProducts(t *testing.T) {
	top, low, tiny, half := parts(highest), parts(-highest), parts(1), parts(5000)
	checks(t, 8, []ask{
		{"PROD", row(top), top}, {"PROD", row(low), low}, {"PROD", row(top, -1), low}, {"PROD", row(top, 1, 1), top}, {"PROD", row(top, 2), api.CodeNum}, {"PROD", row(low, 2), api.CodeNum}, {"PROD", row(top, 2, 0), api.CodeNum}, {"PROD", row(0, top, 2), 0}, {"PROD", row(top, 2, half), api.CodeNum}, {"PROD", row(top, half, 2), api.CodeNum}, {"PROD", row(parts(highest-1), half, 2), parts(highest - 1)},
		{"PROD", row(tiny, half), tiny}, {"PROD", row(parts(-1), half), parts(-1)}, {"PROD", row(tiny, parts(4999)), 0}, {"PROD", row(tiny, half, half, half), tiny}, {"PROD", row(tiny, parts(4999), 10000), 0}, {"PROD", row(half, half, tiny), 0}, {"PROD", row(tiny, tiny), 0}, {"PROD", row(3, -2, half), -3}, {"PROD", row(-1, -1, -1), -1}, {"PROD", row(0), 0},
		{"PROD", row(box("A1:C1", 2, 3, 4), 5), 120}, {"PROD", row(box("A1:B2", top, 2, 0, api.CodeDiv)), api.CodeDiv}, {"PROD", slices.Repeat(row(2), 16), 65536}, {"PROD", slices.Repeat(row(10), 14), 100000000000000}, {"PROD", slices.Repeat(row(10), 15), api.CodeNum}, {"PROD", row(box("A1:A1")), 1},
	})
}

// The rows MIN and MAX: none, one, equal ones, the last numbers on both sides.
func TestLeastAndGreatest(t *testing.T) {
	top, low := parts(highest), parts(-highest)
	for _, c := range []struct {
		args       []api.Arg
		least, top any
	}{
		{row(box("A1:B2")), api.CodeMiss, api.CodeMiss}, {row(box("A1:B2", "1", true, api.Value{}), "", false), api.CodeMiss, api.CodeMiss}, {row(0), 0, 0}, {row(-3, "x"), -3, -3}, {row(2, 2, 2), 2, 2}, {row(box("A1:C1", 3, 1, 2)), 1, 3}, {row(parts(1), parts(2)), parts(1), parts(2)}, {row(parts(-1), parts(-2)), parts(-2), parts(-1)},
		{row(low, top), low, top}, {row(top, 0, low), low, top}, {row(top, parts(highest-1)), parts(highest - 1), top}, {row(low, parts(1-highest)), low, parts(1 - highest)}, {row(5, box("A1:A1", 7), box("A1:A1", -7)), -7, 7}, {row(box("A1:C1", 1, api.CodeNum, api.CodeDiv)), api.CodeNum, api.CodeNum}, {row(box("A1:A1", api.CodeDiv)), api.CodeDiv, api.CodeDiv},
	} {
		calls(t, 8, c.least, "MIN", c.args...)
		calls(t, 8, c.top, "MAX", c.args...)
	}
}

// The row AVG: sums that may not be, and halves that are rounded on both sides of 0.
func TestAverages(t *testing.T) {
	top, low := parts(highest), parts(-highest)
	checks(t, 8, []ask{
		{"AVG", row(top), top}, {"AVG", row(low), low}, {"AVG", row(top, top), top}, {"AVG", row(low, low), low}, {"AVG", slices.Repeat(row(top), 16), top}, {"AVG", slices.Repeat(row(low), 16), low}, {"AVG", row(top, low), 0}, {"AVG", row(top, top, low), parts(highest / 3)}, {"AVG", row(top, parts(highest-1)), top}, {"AVG", row(low, parts(1-highest)), low}, {"AVG", row(top, parts(highest-2)), parts(highest - 1)},
		{"AVG", row(top, top, parts(highest-1)), top}, {"AVG", row(top, parts(highest-1), parts(highest-1)), parts(highest - 1)}, {"AVG", row(low, low, parts(1-highest)), low}, {"AVG", row(low, parts(1-highest), parts(1-highest)), parts(1 - highest)},
		{"AVG", row(parts(1), parts(2)), parts(2)}, {"AVG", row(parts(-1), parts(-2)), parts(-2)}, {"AVG", row(parts(0), parts(1)), parts(1)}, {"AVG", row(parts(0), parts(-1)), parts(-1)}, {"AVG", row(parts(1), parts(0), parts(0)), 0}, {"AVG", row(parts(-1), parts(0), parts(0)), 0}, {"AVG", row(parts(1), parts(1), parts(0)), parts(1)}, {"AVG", row(parts(-1), parts(-1), parts(0)), parts(-1)}, {"AVG", row(parts(-1), parts(2)), parts(1)}, {"AVG", row(parts(1), parts(-2)), parts(-1)}, {"AVG", row(parts(1), 0, 0, 0), 0}, {"AVG", row(parts(2), 0, 0, 0), parts(1)},
		{"AVG", row(1, 2), parts(15000)}, {"AVG", row(1, 1, 2), parts(13333)}, {"AVG", row(1, 2, 2), parts(16667)}, {"AVG", row(-1, -2, -2), parts(-16667)}, {"AVG", row(2, 2, 2), 2}, {"AVG", row(box("A1:B2", "x", true)), api.CodeMiss}, {"AVG", row("x", api.Value{}, false), api.CodeMiss}, {"AVG", row(box("A1:B2", api.Value{}, 4), 5), parts(45000)}, {"AVG", row(box("A1:B1", "x", api.CodeDiv)), api.CodeDiv},
	})
}

// The row MEDIAN: even and odd counts, equal ones, two whose sum is no number, and halves on both sides of 0.
func TestMedians(t *testing.T) {
	top, low := parts(highest), parts(-highest)
	checks(t, 8, []ask{
		{"MEDIAN", row(7), 7}, {"MEDIAN", row(3, 1), 2}, {"MEDIAN", row(3, 1, 9), 3}, {"MEDIAN", row(9, 1, 3, 5), 4}, {"MEDIAN", row(9, 1, 3, 5, 7), 5}, {"MEDIAN", row(2, 2), 2}, {"MEDIAN", row(1, 2, 2, 2), 2}, {"MEDIAN", row(2, 2, 1), 2}, {"MEDIAN", row(5, -5, 0), 0}, {"MEDIAN", row(-5, -7), -6}, {"MEDIAN", row(10, 9, 1), 9}, {"MEDIAN", row(-1, -10, 2, 100), parts(5000)},
		{"MEDIAN", row(top, top), top}, {"MEDIAN", row(low, low), low}, {"MEDIAN", row(top, parts(highest-1)), top}, {"MEDIAN", row(low, parts(1-highest)), low}, {"MEDIAN", row(top, parts(highest-2)), parts(highest - 1)}, {"MEDIAN", row(top, low), 0}, {"MEDIAN", row(0, top, top, top), top}, {"MEDIAN", row(low, low, 0, low), low}, {"MEDIAN", slices.Repeat(row(top), 16), top}, {"MEDIAN", row(top, low, 5), 5},
		{"MEDIAN", row(parts(1), parts(2)), parts(2)}, {"MEDIAN", row(parts(-1), parts(-2)), parts(-2)}, {"MEDIAN", row(parts(0), parts(1)), parts(1)}, {"MEDIAN", row(parts(0), parts(-1)), parts(-1)}, {"MEDIAN", row(parts(-1), parts(2)), parts(1)}, {"MEDIAN", row(parts(1), parts(-2)), parts(-1)}, {"MEDIAN", row(parts(-1), parts(1)), 0}, {"MEDIAN", row(parts(1), parts(3)), parts(2)},
		{"MEDIAN", row(box("A1:B2", 4, "x", nil, 1), 3, true), 3}, {"MEDIAN", row(box("A1:B2", 4, "x", nil, 1), 3, 2), parts(25000)}, {"MEDIAN", row(box("A1:B2")), api.CodeMiss}, {"MEDIAN", row("x", true, api.Value{}), api.CodeMiss}, {"MEDIAN", row(box("A1:A2", "x", api.CodeType)), api.CodeType},
	})
}

// The rows of many arguments: none, one, 16 and 17 of them; JOIN with v alone.
func TestHowMany(t *testing.T) {
	for _, name := range []string{"SUM", "PROD", "MIN", "MAX", "AVG", "MEDIAN", "COUNT", "COUNTA"} {
		for _, a := range row(1, box("A1:A1", 1)) {
			checks(t, 8, []ask{{name, nil, api.CodeArg}, {name, []api.Arg{}, api.CodeArg}, {name, []api.Arg{a}, 1}, {name, slices.Repeat([]api.Arg{a}, 17), api.CodeArg}})
		}
	}
	one, cell := slices.Repeat(row(1), 17), slices.Repeat(row(box("B2:B2", 1)), 17)
	last := append(slices.Repeat(row(box("A1:A1")), 15), row(7)...)
	checks(t, 16, []ask{
		{"SUM", one[:16], 16}, {"PROD", one[:16], 1}, {"MIN", one[:16], 1}, {"MAX", one[:16], 1}, {"AVG", one[:16], 1}, {"MEDIAN", one[:16], 1}, {"COUNT", one[:16], 16}, {"COUNTA", one[:16], 16}, {"SUM", cell[:16], 16}, {"COUNT", cell[:16], 16}, {"COUNTA", cell[:16], 16},
		{"SUM", last, 7}, {"PROD", last, 7}, {"MIN", last, 7}, {"MAX", last, 7}, {"AVG", last, 7}, {"MEDIAN", last, 7}, {"COUNT", last, 1}, {"COUNTA", last, 1},
		{"JOIN", nil, api.CodeArg}, {"JOIN", row("-"), api.CodeArg}, {"JOIN", row(box("A1:A1", 1)), api.CodeArg}, {"JOIN", row("-", 1), "1"}, {"JOIN", one[:16], api.CodeLong}, {"JOIN", append(row(""), one[:15]...), "111111111111111"}, {"JOIN", append(row(""), one[:16]...), api.CodeArg}, {"JOIN", append(row(""), cell[:15]...), "111111111111111"}, {"JOIN", append(row(""), cell[:16]...), api.CodeArg},
	})
}

// The rows COUNT, COUNTA, BLANKS, COUNTIF, ROWS and COLS: rectangles of each form with no entry, with some, with all.
func TestForms(t *testing.T) {
	for name, size := range map[string][2]int{"A1:A1": {1, 1}, "IV4096:IV4096": {1, 1}, "A1:IV1": {1, 256}, "A4096:IV4096": {1, 256}, "A1:A4096": {4096, 1}, "IV1:IV4096": {4096, 1}, "B2:D3": {2, 3}, "Z10:AC30": {21, 4}} {
		height, width := size[0], size[1]
		all := height * width
		var full, half []any
		filled := 0
		for i := range all {
			full = append(full, i)
			if i%3 == 1 {
				half = append(half, api.Value{})
			} else if i%3 == 2 {
				filled++
				half = append(half, "x")
			} else {
				half = append(half, nil)
			}
		}
		none, some, each := box(name), box(name, half...), box(name, full...)
		for _, a := range row(none, some, each) {
			checks(t, 8, []ask{{"ROWS", row(a), height}, {"COLS", row(a), width}})
		}
		checks(t, 8, []ask{
			{"BLANKS", row(none), all}, {"COUNTA", row(none), 0}, {"COUNT", row(none), 0}, {"COUNTIF", row(none, api.Value{}), all}, {"COUNTIF", row(none, 0), 0}, {"COUNTIF", row(none, ""), 0}, {"COUNTIF", row(none, false), 0}, {"SUM", row(none), 0}, {"MIN", row(none), api.CodeMiss}, {"JOIN", row("-", none), ""}, {"LARGE", row(none, 1), api.CodeRange},
			{"BLANKS", row(some), all - filled}, {"COUNTA", row(some), filled}, {"COUNT", row(some), 0}, {"COUNTIF", row(some, api.Value{}), all - filled}, {"COUNTIF", row(some, "x"), filled}, {"SUM", row(some), 0},
			{"BLANKS", row(each), 0}, {"COUNTA", row(each), all}, {"COUNT", row(each), all}, {"COUNTIF", row(each, api.Value{}), 0}, {"COUNTIF", row(each, all-1), 1}, {"COUNTIF", row(each, all), 0}, {"SUM", row(each), all * (all - 1) / 2}, {"MIN", row(each), 0}, {"MAX", row(each), all - 1},
			{"INDEX", row(each, 1, 1), 0}, {"INDEX", row(each, height, width), all - 1}, {"INDEX", row(each, height, 1), (height - 1) * width}, {"INDEX", row(each, 1, width), width - 1}, {"INDEX", row(none, height, width), api.Value{}}, {"INDEX", row(each, height+1, width), api.CodeRange}, {"INDEX", row(each, height, width+1), api.CodeRange},
			{"SUMIF", row(each, all-1, each), all - 1}, {"SUMIF", row(none, api.Value{}, each), all * (all - 1) / 2}, {"SUMIF", row(each, api.Value{}, each), 0}, {"SUMIF", row(each, 0, none), 0},
		})
	}
}

// Each row with the whole grid: with no entry, with one in each corner, with all.
func TestWholeGrid(t *testing.T) {
	none, all := box(allCells), 4096*256
	corners := none
	for i, c := range []api.Cell{{Row: 1, Col: 1}, {Row: 1, Col: 256}, {Row: 4096, Col: 1}, {Row: 4096, Col: 256}} {
		corners.Entries = append(corners.Entries, api.Entry{Cell: c, Value: wholes(int64(i + 1))})
	}
	full := none
	full.Entries = make([]api.Entry, all)
	for i := range all {
		full.Entries[i] = api.Entry{Cell: api.Cell{Row: 1 + i/256, Col: 1 + i%256}, Value: wholes(int64(i + 1))}
	}
	checks(t, 8, []ask{
		{"BLANKS", row(none), all}, {"COUNTIF", row(none, api.Value{}), all}, {"COUNTA", row(none), 0}, {"SUMIF", row(none, api.Value{}, none), 0}, {"INDEX", row(none, 4096, 256), api.Value{}}, {"MATCH", row(1, none), api.CodeArg}, {"LOOKUP", row(1, none, none), api.CodeArg}, {"ROWS", row(none), 4096}, {"COLS", row(none), 256},
		{"SUM", row(corners), 10}, {"PROD", row(corners), 24}, {"MIN", row(corners), 1}, {"MAX", row(corners), 4}, {"AVG", row(corners), parts(25000)}, {"MEDIAN", row(corners), parts(25000)}, {"COUNT", row(corners), 4}, {"BLANKS", row(corners), all - 4}, {"COUNTIF", row(corners, 4), 1}, {"COUNTIF", row(corners, api.Value{}), all - 4}, {"SUMIF", row(corners, 4, corners), 4}, {"SUMIF", row(corners, api.Value{}, corners), 0}, {"JOIN", row("-", corners), "1-2-3-4"}, {"LARGE", row(corners, 4), 1},
		{"INDEX", row(corners, 1, 1), 1}, {"INDEX", row(corners, 1, 256), 2}, {"INDEX", row(corners, 4096, 1), 3}, {"INDEX", row(corners, 4096, 256), 4}, {"INDEX", row(corners, 4095, 256), api.Value{}}, {"INDEX", row(corners, 256, 1), api.Value{}},
		{"SUM", row(full), all * (all + 1) / 2}, {"COUNT", row(full), all}, {"COUNTA", row(full, full), 2 * all}, {"BLANKS", row(full), 0}, {"MAX", row(full), all}, {"AVG", row(full), parts(int64(all+1) * 5000)}, {"MEDIAN", row(full), parts(int64(all+1) * 5000)}, {"LARGE", row(full, all), 1}, {"LARGE", row(full, all+1), api.CodeRange}, {"INDEX", row(full, 4096, 256), all}, {"COUNTIF", row(full, all), 1}, {"SUMIF", row(full, all, full), all}, {"SUMIF", row(corners, api.Value{}, full), all*(all+1)/2 - 1 - 256 - (4095*256 + 1) - all}, {"JOIN", row("", full), api.CodeLong},
	})
}

// The row COUNTIF: just the same value counts, of whichever kind.
func TestCountif(t *testing.T) {
	blank := api.Value{}
	a := box("A1:E3", 1, "1", true, nil, blank, "TRUE", "", 0, false, "FALSE", 1, parts(1), api.CodeDiv, "x", "X")
	for v, want := range map[any]int{1: 2, "1": 1, true: 1, "TRUE": 1, "": 1, 0: 1, false: 1, "FALSE": 1, parts(1): 1, "x": 1, "X": 1, blank: 2, "#DIV!": 0, "0": 0, 2: 0, "\x00": 0} {
		calls(t, 8, want, "COUNTIF", row(a, v)...)
	}
	calls(t, 8, api.CodeDiv, "COUNTIF", row(a, api.CodeDiv)...)
	calls(t, 8, api.CodeMiss, "COUNTIF", row(a, api.CodeMiss)...)
}

// The row SUMIF: rectangles of one size and of unlike sizes, faults at places that count and at others.
func TestSumif(t *testing.T) {
	blank, div := api.Value{}, api.CodeDiv
	two := box("A1:B2", 1, "x", nil, 1)
	checks(t, 8, []ask{
		{"SUMIF", row(two, 1, box("C5:D6", 10, 20, 30, 40)), 50}, {"SUMIF", row(two, "x", box("C5:D6", 10, 20, 30, 40)), 20}, {"SUMIF", row(two, blank, box("C5:D6", 10, 20, 30, 40)), 30}, {"SUMIF", row(two, "1", box("C5:D6", 10, 20, 30, 40)), 0}, {"SUMIF", row(two, 1, two), 2}, {"SUMIF", row(two, blank, two), 0}, {"SUMIF", row(two, 1, box("IU4095:IV4096", 10, 20, 30, 40)), 50},
		{"SUMIF", row(two, 1, box("C5:D6", 10, 20, 30)), 10}, {"SUMIF", row(two, 1, box("C5:D6")), 0}, {"SUMIF", row(two, 1, box("C5:D6", "10", 1, 1, true)), 0}, {"SUMIF", row(two, 1, box("C5:D6", blank, 1, 1, 7)), 7}, {"SUMIF", row(box("A1:B2"), blank, box("C5:D6", 10, 20, 30, 40)), 100}, {"SUMIF", row(box("A1:B2", blank, nil, blank), blank, box("C5:D6", 10, 20, 30, 40)), 100},
		{"SUMIF", row(two, 1, box("C5:D6", 10, div, div, 40)), 50}, {"SUMIF", row(two, "x", box("C5:D6", 10, div, div, 40)), div}, {"SUMIF", row(two, 1, box("C5:D6", api.CodeNum, div, div, api.CodeMiss)), api.CodeNum}, {"SUMIF", row(two, 1, box("C5:D6", 1, div, div, api.CodeMiss)), api.CodeMiss}, {"SUMIF", row(two, blank, box("C5:D6", api.CodeNum, 1, div, api.CodeMiss)), div}, {"SUMIF", row(box("A1:B2", 1, 1, 1, 1), 1, box("C5:D6", 1, api.CodeLong, div, 2)), api.CodeLong},
		{"SUMIF", row(box("A1:B2", div, 1, api.CodeNum, 1), 1, box("C5:D6", 10, 20, 30, 40)), 60}, {"SUMIF", row(box("A1:B2", div, 1), blank, box("C5:D6", 10, 20, 30, 40)), 70}, {"SUMIF", row(box("A1:A1", 2), 2, box("A1:A1", parts(1))), parts(1)},
		{"SUMIF", row(two, 1, box("C5:D7", 1)), api.CodeArg}, {"SUMIF", row(two, 1, box("C5:E6", 1)), api.CodeArg}, {"SUMIF", row(two, 1, box("C5:C6", 1)), api.CodeArg}, {"SUMIF", row(two, 1, box("C5:F5", 1)), api.CodeArg}, {"SUMIF", row(box("A1:C1"), 1, box("A1:A3")), api.CodeArg}, {"SUMIF", row(box("A1:A3"), 1, box("A1:C1")), api.CodeArg}, {"SUMIF", row(box("A1:C2"), 1, box("A1:B3")), api.CodeArg}, {"SUMIF", row(box("A1:A1", 1), 1, box("A1:A2", div, div)), api.CodeArg},
	})
}

// The rows MATCH and LOOKUP: lines of both kinds, the first of several, and rectangles that are no lines or not of one size.
func TestLines(t *testing.T) {
	blank, div := api.Value{}, api.CodeDiv
	list := []any{3, "3", nil, 3, blank, true, div, "x"}
	const last = 8
	across, down := box("C2:J2", list...), box("C2:C9", list...)
	values := []any{"a", nil, 7, div, "e", blank, true, "h"}
	for _, pair := range [][2]api.Arg{{across, box("A9:H9", values...)}, {down, box("IV4089:IV4096", values...)}} {
		line, other := pair[0], pair[1]
		checks(t, 0, []ask{
			{"MATCH", row(3, line), 1}, {"MATCH", row("3", line), 2}, {"MATCH", row(blank, line), 3}, {"MATCH", row(true, line), 6}, {"MATCH", row("x", line), last}, {"MATCH", row("X", line), api.CodeMiss}, {"MATCH", row(false, line), api.CodeMiss}, {"MATCH", row("", line), api.CodeMiss}, {"MATCH", row(0, line), api.CodeMiss}, {"MATCH", row(1, line), api.CodeMiss}, {"MATCH", row("TRUE", line), api.CodeMiss}, {"MATCH", row(div, line), div}, {"MATCH", row(api.CodeMiss, line), api.CodeMiss},
			{"LOOKUP", row(3, line, other), "a"}, {"LOOKUP", row("3", line, other), blank}, {"LOOKUP", row(blank, line, other), 7}, {"LOOKUP", row(true, line, other), blank}, {"LOOKUP", row("x", line, other), "h"}, {"LOOKUP", row("X", line, other), api.CodeMiss}, {"LOOKUP", row(div, line, other), div}, {"LOOKUP", row(div, line, box("A1:A1")), div}, {"LOOKUP", row(3, line, line), 3}, {"LOOKUP", row(blank, line, line), blank},
			{"LOOKUP", row(div, other, line), div}, {"LOOKUP", row("a", other, line), 3}, {"LOOKUP", row(blank, other, line), "3"}, {"LOOKUP", row(7, other, line), blank}, {"LOOKUP", row("e", other, line), blank}, {"LOOKUP", row(true, other, line), div}, {"LOOKUP", row("h", other, line), "x"},
		})
	}
	checks(t, 8, []ask{
		{"MATCH", row(1, box("B2:B2", 1)), 1}, {"MATCH", row(blank, box("B2:B2")), 1}, {"MATCH", row(blank, box("B2:B2", blank)), 1}, {"MATCH", row(blank, box("B2:B2", 1)), api.CodeMiss}, {"MATCH", row(1, box("B2:B2")), api.CodeMiss}, {"LOOKUP", row(1, box("B2:B2", 1), box("A1:A1", "x")), "x"}, {"LOOKUP", row(blank, box("B2:B2"), box("A1:A1", "x")), "x"},
		{"MATCH", row(blank, box("A1:C1", 1, 2, 3)), api.CodeMiss}, {"MATCH", row(blank, box("A1:C1", 1, 2)), 3}, {"MATCH", row(blank, box("A1:C1", nil, 2)), 1}, {"MATCH", row(blank, box("A1:C1", 1, blank, 3)), 2}, {"MATCH", row(3, box("A1:C1", nil, nil, 3)), 3}, {"MATCH", row(blank, box("A1:A4096")), 1}, {"MATCH", row(7, box("A1:A4096", slices.Concat(make([]any, 4095), []any{7})...)), 4096}, {"MATCH", row(7, box("A1:IV1", slices.Concat(make([]any, 255), []any{7})...)), 256},
		{"MATCH", row(1, box("A1:B2", 1, 1, 1, 1)), api.CodeArg}, {"MATCH", row(1, box("A1:B4096")), api.CodeArg}, {"MATCH", row(1, box("A1:IV2")), api.CodeArg}, {"LOOKUP", row(1, box("A1:B2", 1), box("A1:B2", 1)), api.CodeArg}, {"LOOKUP", row(1, box("A1:B1", 1), box("A1:B2", 1)), api.CodeArg}, {"LOOKUP", row(1, box("A1:B2", 1), box("A1:B1", 1)), api.CodeArg},
		{"LOOKUP", row(1, box("A1:C1", 1), box("A1:A3", 1)), api.CodeArg}, {"LOOKUP", row(1, box("A1:A3", 1), box("A1:C1", 1)), api.CodeArg}, {"LOOKUP", row(1, box("A1:C1", 1), box("A1:B1", 1)), api.CodeArg}, {"LOOKUP", row(1, box("A1:A3", 1), box("A1:A4", 1)), api.CodeArg}, {"LOOKUP", row(9, box("A1:A3", 1), box("A1:A4", 1)), api.CodeArg}, {"LOOKUP", row(9, box("A1:A3", 1), box("B1:B3", 1)), api.CodeMiss}, {"LOOKUP", row(1, box("A1:A1", 1), box("A1:B1", 1)), api.CodeArg}, {"LOOKUP", row(1, box("A1:A3", div, 1), box("B1:B3", api.CodeNum, 5)), 5},
	})
}

// places are numbers for a place among so many: which stands there, and numbers that are none.
func places(last int) []api.Value {
	list := []api.Value{{}, truth(false), truth(true), text("1"), text(""), parts(1), parts(5000), parts(9999), parts(10001), parts(-10000), parts(-1), parts(highest), parts(-highest), wholes(highestWhole), wholes(-highestWhole), wholes(1 << 32), wholes(1<<32 + 1), wholes(-1 << 32)}
	for n := range last + 3 {
		list = append(list, wholes(int64(n)), parts(int64(n)*10000+5000))
	}
	return list
}

// The row INDEX: places of 0, 1, the last, one beyond it, with parts, and far beyond, in both places.
func TestIndex(t *testing.T) {
	for _, a := range row(box("B2:B2", 1), box("C3:E4", 1, "x", nil, true, api.CodeDiv, api.Value{}), box("IV4094:IV4096", 1, nil, 3), box("A1:B3", 1, 2, 3, 4, 5, 6), box("A1:C1")) {
		for _, i := range places(rows(a.Rect)) {
			for _, j := range places(cols(a.Rect)) {
				models(t, 0, "INDEX", row(a, i, j))
			}
		}
	}
	a := box("C3:E4", 1, "x", nil, true, api.CodeDiv, api.Value{})
	checks(t, 0, []ask{
		{"INDEX", row(a, 1, 1), 1}, {"INDEX", row(a, 1, 2), "x"}, {"INDEX", row(a, 1, 3), api.Value{}}, {"INDEX", row(a, 2, 1), true}, {"INDEX", row(a, 2, 2), api.CodeDiv}, {"INDEX", row(a, 2, 3), api.Value{}}, {"INDEX", row(a, true, true), 1}, {"INDEX", row(a, 2, true), true},
		{"INDEX", row(a, 0, 1), api.CodeRange}, {"INDEX", row(a, 1, 0), api.CodeRange}, {"INDEX", row(a, 3, 1), api.CodeRange}, {"INDEX", row(a, 1, 4), api.CodeRange}, {"INDEX", row(a, 3, 2), api.CodeRange}, {"INDEX", row(a, api.Value{}, 1), api.CodeRange}, {"INDEX", row(a, 1, false), api.CodeRange}, {"INDEX", row(a, -1, 1), api.CodeRange}, {"INDEX", row(a, highestWhole, 1), api.CodeRange}, {"INDEX", row(a, 1, -highestWhole), api.CodeRange}, {"INDEX", row(a, 1<<32+1, 1), api.CodeRange}, {"INDEX", row(a, 1, 1<<32+1), api.CodeRange},
		{"INDEX", row(a, parts(15000), 1), api.CodeArg}, {"INDEX", row(a, 1, parts(15000)), api.CodeArg}, {"INDEX", row(a, parts(highest), 1), api.CodeArg}, {"INDEX", row(a, 1, parts(-highest)), api.CodeArg}, {"INDEX", row(a, "1", 1), api.CodeType}, {"INDEX", row(a, 1, "1"), api.CodeType}, {"INDEX", row(a, 3, 3), api.CodeRange},
	})
}

// The row LARGE: places of 0, 1, the last, one beyond it, with parts, and far beyond; equal numbers count each.
func TestLarge(t *testing.T) {
	for _, a := range row(box("A1:A1"), box("A1:A1", 7), box("A1:B2", 3, 1, 3, 2), box("A1:C2", "x", 5, nil, true, 5, api.Value{}), box("A1:C1", 1, api.CodeDiv, 2), box("A1:C1", parts(highest), parts(-highest), 0), box("A1:A3", "x", true)) {
		for _, k := range places(4) {
			models(t, 0, "LARGE", row(a, k))
		}
	}
	a, wrong := box("A1:E1", 3, 1, "x", 3, -2), box("A1:C1", 1, api.CodeDiv, api.CodeNum)
	checks(t, 0, []ask{
		{"LARGE", row(a, 1), 3}, {"LARGE", row(a, 2), 3}, {"LARGE", row(a, 3), 1}, {"LARGE", row(a, 4), -2}, {"LARGE", row(a, 5), api.CodeRange}, {"LARGE", row(a, 0), api.CodeRange}, {"LARGE", row(a, -1), api.CodeRange}, {"LARGE", row(a, true), 3}, {"LARGE", row(a, false), api.CodeRange}, {"LARGE", row(a, api.Value{}), api.CodeRange}, {"LARGE", row(a, highestWhole), api.CodeRange}, {"LARGE", row(a, -highestWhole), api.CodeRange}, {"LARGE", row(a, 1<<32+1), api.CodeRange},
		{"LARGE", row(a, parts(highest)), api.CodeArg}, {"LARGE", row(a, parts(-highest)), api.CodeArg}, {"LARGE", row(a, parts(15000)), api.CodeArg}, {"LARGE", row(a, "1"), api.CodeType}, {"LARGE", row(wrong, 1), api.CodeDiv}, {"LARGE", row(wrong, 0), api.CodeDiv}, {"LARGE", row(wrong, 9), api.CodeDiv}, {"LARGE", row(wrong, "1"), api.CodeType}, {"LARGE", row(wrong, parts(1)), api.CodeArg}, {"LARGE", row(box("A1:A1"), 1), api.CodeRange}, {"LARGE", row(box("A1:A1", 2), 5), api.CodeRange},
	})
}

// The row JOIN: empty texts count, Blanks do not, and each kind of item stands as a text.
func TestJoin(t *testing.T) {
	blank := api.Value{}
	checks(t, 64, []ask{
		{"JOIN", row(",", "", ""), ","}, {"JOIN", row(",", "", blank, ""), ","}, {"JOIN", row(",", blank, ""), ""}, {"JOIN", row(",", blank, "a"), "a"}, {"JOIN", row(",", "a", blank), "a"}, {"JOIN", row(",", blank, blank), ""}, {"JOIN", row(",", box("A1:D1", "", nil, blank, "")), ","}, {"JOIN", row(",", box("A1:A3"), "a", box("A1:A3"), "b"), "a,b"}, {"JOIN", row("", "", ""), ""},
		{"JOIN", row(", ", 1, parts(-15000), true, false, "x y"), "1, -1.5, TRUE, FALSE, x y"}, {"JOIN", row("\x00\xff", "\xc3", "\xa4"), "\xc3\x00\xff\xa4"}, {"JOIN", row(false, "a", "b"), "aFALSEb"}, {"JOIN", row(blank, "a", "b"), "ab"}, {"JOIN", row(parts(-1), 1, 2), "1-0.00012"}, {"JOIN", row("-", box("B2:C3", 1, 2, 3, 4), box("A1:B1", 5, 6)), "1-2-3-4-5-6"}, {"JOIN", row("ab", "ab", "ab"), "ababab"},
	})
}

// P10.2: the order of what is wrong.
func TestOrder(t *testing.T) {
	wrong, half, div := api.Value{Num: 1}, parts(5000), api.CodeDiv
	bad, twice := box("A1:A1", api.CodeMiss), box("A1:A2", 1, 1)
	twice.Entries[1].Cell = twice.Entries[0].Cell
	long := strings.Repeat("x", 9)
	two := box("A1:B2", 1, 2)
	checks(t, 8, []ask{
		// A name or arguments that are not taken, ahead of Faults.
		{"NONE", row(div), api.CodeArg}, {"ROWS", row(div), api.CodeArg}, {"COUNTIF", row(div, bad), api.CodeArg}, {"JOIN", row(div), api.CodeArg}, {"JOIN", row(bad, div), api.CodeArg}, {"SUM", slices.Repeat(row(div), 17), api.CodeArg}, {"INDEX", row(bad, div), api.CodeArg}, {"LOOKUP", row(div, bad), api.CodeArg},
		// An argument that may not be, also behind a Fault.
		{"SUM", row(div, wrong), api.CodeArg}, {"SUM", row(div, twice), api.CodeArg}, {"SUM", row(wrong, div), api.CodeArg}, {"SUM", row(bad, twice), api.CodeArg}, {"SUM", append(slices.Repeat(row(div), 15), twice), api.CodeArg}, {"MATCH", row(div, twice), api.CodeArg}, {"COUNTIF", row(twice, div), api.CodeArg}, {"COUNTIF", row(bad, wrong), api.CodeArg}, {"INDEX", row(two, "x", wrong), api.CodeArg}, {"INDEX", row(twice, "x", half), api.CodeArg}, {"INDEX", row(two, div, parts(math.MinInt64)), api.CodeArg}, {"COUNT", row(bad, box("A1:A1", fault(9))), api.CodeArg}, {"JOIN", row(div, bad, wrong), api.CodeArg}, {"ROWS", row(twice), api.CodeArg},
		// The first Fault of a single argument, ahead of those in rectangles.
		{"SUM", row(bad, div), div}, {"SUM", row(bad, div, api.CodeNum), div}, {"COUNT", row(bad, 1, div), div}, {"COUNTA", row(div, bad), div}, {"MIN", row(bad, bad, div), div}, {"MAX", row(api.CodeNum, div), api.CodeNum}, {"AVG", row("x", div), div}, {"MEDIAN", row(bad, div), div}, {"PROD", row(parts(highest), parts(highest), div), div}, {"JOIN", row(div, api.CodeNum), div}, {"JOIN", row("x", bad, div), div}, {"JOIN", row(long, long, long, div), div}, {"JOIN", row(api.CodeNum, bad, div), api.CodeNum},
		{"MATCH", row(div, two), div}, {"LOOKUP", row(div, two, bad), div}, {"SUMIF", row(two, div, bad), div}, {"INDEX", row(two, "x", div), div}, {"INDEX", row(two, half, div), div}, {"INDEX", row(bad, div, api.CodeNum), div}, {"INDEX", row(two, 9, div), div}, {"LARGE", row(bad, div), div},
		// The Codes of i, j and k from the left.
		{"INDEX", row(two, "x", half), api.CodeType}, {"INDEX", row(two, half, "x"), api.CodeArg}, {"INDEX", row(two, 9, "x"), api.CodeType}, {"INDEX", row(two, "x", 9), api.CodeType}, {"INDEX", row(two, 9, half), api.CodeArg}, {"INDEX", row(two, half, 9), api.CodeArg}, {"LARGE", row(bad, "x"), api.CodeType}, {"LARGE", row(bad, half), api.CodeArg}, {"LARGE", row(box("A1:A1"), half), api.CodeArg},
		// Then what the table says, the first that applies.
		{"SUM", row(1, box("A1:C1", 1, api.CodeType, div), bad), api.CodeType}, {"SUM", row(bad, box("A1:A1", div)), api.CodeMiss}, {"SUM", row(box("A1:A1", div), bad), div}, {"SUM", row(box("A1:B2", parts(highest), parts(highest), 0, div)), div}, {"SUM", row(box("A1:B2", nil, api.CodeNum, div)), api.CodeNum}, {"MIN", row(box("A1:A2", "x", div)), div}, {"JOIN", row(long, long, bad), api.CodeMiss}, {"JOIN", row(long, bad, box("A1:A1", div)), api.CodeMiss}, {"LARGE", row(bad, 0), api.CodeMiss}, {"LARGE", row(box("A1:A1", div), 2), div},
		{"SUMIF", row(box("A1:A2", 1, 1), 1, box("A1:A1", div)), api.CodeArg}, {"SUMIF", row(box("A1:B2", 1, 1, 1, 1), 1, box("A1:B2", parts(highest), parts(highest), api.CodeType, div)), api.CodeType}, {"LOOKUP", row(9, two, two), api.CodeArg}, {"LOOKUP", row(9, box("A1:B1", 1), two), api.CodeArg}, {"MATCH", row(9, two), api.CodeArg},
	})
}

// R1: rectangles of all sizes around the grid's ends, and cells of one size beyond it, are told right or refused.
func TestGridEnds(t *testing.T) {
	for _, r := range []api.Rect{{Top: 4096, Left: 256, Bottom: 4096, Right: 256}, {Top: 4095, Left: 255, Bottom: 4096, Right: 256}, {Top: 1, Left: 256, Bottom: 4096, Right: 256}, {Top: 4096, Left: 1, Bottom: 4096, Right: 256}} {
		a := api.Arg{Many: true, Rect: r, Entries: []api.Entry{{Cell: api.Cell{Row: r.Bottom, Col: r.Right}, Value: wholes(5)}}}
		name := addr.NameRect(api.Rect{Top: 1, Left: 1, Bottom: rows(r), Right: cols(r)})
		checks(t, 8, []ask{{"SUM", row(a), 5}, {"INDEX", row(a, rows(r), cols(r)), 5}, {"SUMIF", row(a, 5, a), 5}, {"SUMIF", row(a, 5, box(name)), 0}, {"SUMIF", row(box(name), api.Value{}, a), 5}, {"BLANKS", row(a), rows(r)*cols(r) - 1}})
		for _, e := range []api.Cell{{Row: r.Bottom + 1, Col: r.Right}, {Row: r.Bottom, Col: r.Right + 1}, {Row: r.Top - 1, Col: r.Right}, {Row: r.Bottom, Col: r.Left - 1}} {
			a.Entries = []api.Entry{{Cell: e, Value: wholes(5)}}
			calls(t, 8, api.CodeArg, "SUM", a)
		}
	}
}
