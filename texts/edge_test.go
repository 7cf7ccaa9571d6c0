package texts

import (
	"math"
	"slices"
	"strings"
	"testing"

	"oriel/api"
)

// P9.2: how many bytes a text may have is looked at ahead of all else: at 0 and 1024 it is right, beyond them not.
func TestTextBound(t *testing.T) {
	wrong := []int{math.MinInt, -1025, -1, 1025, 1026, 1 << 32, math.MaxInt}
	for name, k := range rows() {
		div := slices.Repeat(row(api.CodeDiv), k.least)
		lists := [][]api.Arg{nil, k.plain(k.least), k.plain(len(k.places)), div, slices.Repeat(row("x"), k.least), slices.Repeat(row(parts(1)), k.least)}
		for _, args := range lists {
			for _, most := range wrong {
				calls(t, most, api.CodeArg, name, args...)
			}
			for _, most := range []int{0, 1, 2, 8, 1023, 1024} {
				models(t, most, name, args)
			}
		}
		calls(t, 0, api.CodeDiv, name, div...)
		calls(t, 1024, api.CodeDiv, name, div...)
	}
	checks(t, 0, []ask{
		{"LEN", row("abc"), 3}, {"LEFT", row("abc", 0), ""}, {"LEFT", row("abc"), api.CodeLong}, {"FIND", row("c", "abc"), 3}, {"ORD", row("A"), 65}, {"CHAR", row(65), api.CodeLong},
		{"EXACT", row("abc", "abc"), true}, {"NUM", row("12.5"), parts(125000)}, {"CONCAT", row("", ""), ""}, {"CONCAT", row("", "a"), api.CodeLong}, {"REPT", row("a", 0), ""}, {"REPT", row("a", 1), api.CodeLong}, {"TRIM", row("   "), ""}, {"SUBST", row("aa", "a", ""), ""}, {"SUBST", row("ab", "a", ""), api.CodeLong},
	})
}

// P9.2: an answer of just so many bytes as may be is right, of one byte more too long; arguments may be longer.
func TestLongAnswers(t *testing.T) {
	for _, most := range []int{1, 2, 7, 8, 1022, 1023, 1024} {
		just, more := strings.Repeat("x", most), strings.Repeat("x", most+1)
		upper := strings.ToUpper(just)
		half := strings.Repeat("x", most/2)
		checks(t, most, []ask{
			{"LEFT", row(just, most), just}, {"LEFT", row(more, most), just}, {"LEFT", row(more, most+1), api.CodeLong}, {"LEFT", row(more, greatestWhole), api.CodeLong}, {"LEFT", row(more), "x"},
			{"RIGHT", row(just, most), just}, {"RIGHT", row(more, most), just}, {"RIGHT", row(more, most+1), api.CodeLong}, {"RIGHT", row(more, greatestWhole), api.CodeLong}, {"RIGHT", row(more), "x"},
			{"MID", row(more, 1, most), just}, {"MID", row(more, 2, most+1), just}, {"MID", row(more, 1, most+1), api.CodeLong}, {"MID", row("y"+more, 2, greatestWhole), api.CodeLong}, {"MID", row("y"+just, 2, greatestWhole), just},
			{"UPPER", row(just), upper}, {"UPPER", row(more), api.CodeLong}, {"LOWER", row(upper), just}, {"LOWER", row(upper + "X"), api.CodeLong}, {"TRIM", row(just), just}, {"TRIM", row("   " + just + "  "), just}, {"TRIM", row(more), api.CodeLong},
			{"REPT", row("x", most), just}, {"REPT", row("x", most+1), api.CodeLong}, {"REPT", row(just, 1), just}, {"REPT", row(more, 1), api.CodeLong}, {"REPT", row(more, 0), ""}, {"REPT", row(just, 2), api.CodeLong},
			{"SUBST", row(just, "y", "z"), just}, {"SUBST", row(more, "y", "z"), api.CodeLong}, {"SUBST", row("y", "y", just), just}, {"SUBST", row("y", "y", more), api.CodeLong}, {"SUBST", row(more, more, just), just}, {"SUBST", row(more, more, ""), ""}, {"SUBST", row(more+more, "x", ""), ""},
			{"CONCAT", row(just), just}, {"CONCAT", row(more), api.CodeLong}, {"CONCAT", row(half, strings.Repeat("x", most-most/2)), just}, {"CONCAT", row(half, strings.Repeat("x", most-most/2), "x"), api.CodeLong}, {"CONCAT", row("", just, ""), just}, {"CONCAT", row(just, ""), just},
			{"REV", row(just), just}, {"REV", row(more), api.CodeLong}, {"CHAR", row(120), "x"},
			{"LEN", row(more), most + 1}, {"ORD", row(more), 120}, {"EXACT", row(more, more), true}, {"EXACT", row(more, just), false}, {"FIND", row("y", more+"y"), most + 2}, {"NUM", row(more), api.CodeType},
		})
	}
}

// P9.2: very long arguments, of which some would make answers for which there is no room: they are refused, not made.
func TestGreatArguments(t *testing.T) {
	great := strings.Repeat("a", 1<<21)
	checks(t, 1024, []ask{
		{"LEN", row(great), 1 << 21}, {"LEFT", row(great, 3), "aaa"}, {"RIGHT", row(great+"b", 2), "ab"}, {"MID", row(great+"b", 1<<21, 5), "ab"}, {"MID", row(great, 1<<21+1, 5), ""},
		{"REPT", row(great, greatestWhole), api.CodeLong}, {"REPT", row("a", greatestWhole), api.CodeLong}, {"REPT", row("ab", 1<<62/10000), api.CodeLong}, {"REPT", row("", greatestWhole), ""}, {"REPT", row(great, 0), ""}, {"REPT", row("a", 1<<32), api.CodeLong}, {"REPT", row("a", 1<<32+1), api.CodeLong},
		{"SUBST", row(great, "a", great), api.CodeLong}, {"SUBST", row(great, great, "b"), "b"}, {"SUBST", row(great, "a", ""), ""}, {"SUBST", row(great, "", great), api.CodeArg}, {"SUBST", row("b", great, "c"), "b"},
		{"FIND", row(great, great), 1}, {"FIND", row(great+"a", great), api.CodeMiss}, {"FIND", row("b", great+"b"), 1<<21 + 1}, {"FIND", row("", great, 1<<21+1), 1<<21 + 1}, {"FIND", row("", great, 1<<21+2), api.CodeMiss},
		{"TRIM", row(strings.Repeat(" ", 1<<21)), ""}, {"TRIM", row("a" + strings.Repeat(" ", 1<<21) + "b"), "a b"}, {"CONCAT", slices.Repeat(row(great), 16), api.CodeLong}, {"UPPER", row(great), api.CodeLong}, {"REV", row(great), api.CodeLong}, {"ORD", row(great), 97}, {"EXACT", row(great, great+"a"), false}, {"NUM", row(strings.Repeat("1", 1<<21)), api.CodeType},
	})
}

// P9.2: the empty text in each place.
func TestEmpty(t *testing.T) {
	checks(t, 8, []ask{
		{"LEN", row(""), 0}, {"LEFT", row(""), ""}, {"LEFT", row("", 3), ""}, {"LEFT", row("", -1), api.CodeArg}, {"RIGHT", row(""), ""}, {"RIGHT", row("", 3), ""}, {"RIGHT", row("", -1), api.CodeArg},
		{"MID", row("", 1, 0), ""}, {"MID", row("", 1, 1), ""}, {"MID", row("", 9, 9), ""}, {"MID", row("", 0, 0), api.CodeArg}, {"UPPER", row(""), ""}, {"LOWER", row(""), ""}, {"TRIM", row(""), ""}, {"REPT", row("", 0), ""}, {"REPT", row("", 5), ""}, {"REPT", row("", -1), api.CodeArg},
		{"FIND", row("", ""), 1}, {"FIND", row("", "", 1), 1}, {"FIND", row("", "", 2), api.CodeMiss}, {"FIND", row("", "a"), 1}, {"FIND", row("", "a", 2), 2}, {"FIND", row("a", ""), api.CodeMiss}, {"FIND", row("", "", 0), api.CodeArg},
		{"SUBST", row("", "a", "b"), ""}, {"SUBST", row("", "", ""), api.CodeArg}, {"SUBST", row("", "", "b"), api.CodeArg}, {"SUBST", row("aba", "a", ""), "b"}, {"CONCAT", row(""), ""}, {"CONCAT", row("", "", ""), ""}, {"CONCAT", row("", "a", "", "b"), "ab"},
		{"ORD", row(""), api.CodeArg}, {"EXACT", row("", ""), true}, {"EXACT", row("", "a"), false}, {"EXACT", row("a", ""), false}, {"EXACT", row("", "\x00"), false}, {"REV", row(""), ""}, {"NUM", row(""), api.CodeType}, {"LEFT", row("a", ""), api.CodeType}, {"CHAR", row(""), api.CodeType},
	})
}

// The rows LEFT, RIGHT and MID: counts and places of 0, below 0, with parts, around the text's end and far beyond.
func TestPieces(t *testing.T) {
	checks(t, 8, []ask{
		{"LEFT", row("abc", 0), ""}, {"LEFT", row("abc", 1), "a"}, {"LEFT", row("abc", 2), "ab"}, {"LEFT", row("abc", 3), "abc"}, {"LEFT", row("abc", 4), "abc"}, {"LEFT", row("abc", greatestWhole), "abc"}, {"LEFT", row("abc", 1<<32), "abc"}, {"LEFT", row("abc", -greatestWhole), api.CodeArg},
		{"RIGHT", row("abc"), "c"}, {"RIGHT", row("abc", 0), ""}, {"RIGHT", row("abc", 1), "c"}, {"RIGHT", row("abc", 3), "abc"}, {"RIGHT", row("abc", 4), "abc"}, {"RIGHT", row("abc", greatestWhole), "abc"}, {"RIGHT", row("abc", 1<<32), "abc"}, {"RIGHT", row("abc", -1), api.CodeArg}, {"RIGHT", row("abc", -greatestWhole), api.CodeArg},
		{"MID", row("abc", 1, 0), ""}, {"MID", row("abc", 1, 3), "abc"}, {"MID", row("abc", 1, 4), "abc"}, {"MID", row("abc", 3, 1), "c"}, {"MID", row("abc", 3, 2), "c"}, {"MID", row("abc", 4, 1), ""}, {"MID", row("abc", 5, 1), ""}, {"MID", row("abc", 2, greatestWhole), "bc"}, {"MID", row("abc", greatestWhole, greatestWhole), ""}, {"MID", row("abc", greatestWhole, 0), ""}, {"MID", row("abc", 1<<32+1, 1), ""},
		{"MID", row("abc", -1, 1), api.CodeArg}, {"MID", row("abc", 1, -1), api.CodeArg}, {"MID", row("abc", 9, -1), api.CodeArg}, {"MID", row("abc", 0, -1), api.CodeArg}, {"MID", row("abc", -greatestWhole, 1), api.CodeArg}, {"MID", row("abc", 1, -greatestWhole), api.CodeArg},
	})
	for _, n := range []int64{1, -1, 5000, 9999, 10001, 15000, -5000, greatest, -greatest} {
		for _, name := range []string{"LEFT", "RIGHT", "REPT"} {
			calls(t, 8, api.CodeArg, name, row("abc", parts(n))...)
			calls(t, 8, api.CodeArg, name, row("", parts(n))...)
		}
		calls(t, 8, api.CodeArg, "MID", row("abc", parts(n), 1)...)
		calls(t, 8, api.CodeArg, "MID", row("abc", 1, parts(n))...)
		calls(t, 8, api.CodeArg, "FIND", row("a", "abc", parts(n))...)
		calls(t, 8, api.CodeArg, "FIND", row("x", "abc", parts(n))...)
		calls(t, 8, api.CodeArg, "CHAR", row(parts(n))...)
	}
}

// The row FIND: from around the last place on, texts that are longer than the other, and those that overlap themselves.
func TestFind(t *testing.T) {
	checks(t, 0, []ask{
		{"FIND", row("abc", "abc"), 1}, {"FIND", row("abcd", "abc"), api.CodeMiss}, {"FIND", row("bc", "abc"), 2}, {"FIND", row("bcd", "abc"), api.CodeMiss}, {"FIND", row("c", "abc", 3), 3}, {"FIND", row("c", "abc", 4), api.CodeMiss}, {"FIND", row("c", "abc", 5), api.CodeMiss}, {"FIND", row("abc", "abc", 2), api.CodeMiss},
		{"FIND", row("", "abc", 3), 3}, {"FIND", row("", "abc", 4), 4}, {"FIND", row("", "abc", 5), api.CodeMiss}, {"FIND", row("", "abc", greatestWhole), api.CodeMiss}, {"FIND", row("a", "abc", greatestWhole), api.CodeMiss}, {"FIND", row("a", "abc", 1<<32+1), api.CodeMiss}, {"FIND", row("", "abc", 1<<32+1), api.CodeMiss},
		{"FIND", row("a", "abc", -1), api.CodeArg}, {"FIND", row("x", "abc", 0), api.CodeArg}, {"FIND", row("a", "abc", -greatestWhole), api.CodeArg}, {"FIND", row("", "", -greatestWhole), api.CodeArg},
		{"FIND", row("aa", "aaaa"), 1}, {"FIND", row("aa", "aaaa", 2), 2}, {"FIND", row("aa", "aaaa", 3), 3}, {"FIND", row("aa", "aaaa", 4), api.CodeMiss}, {"FIND", row("aab", "aaab"), 2}, {"FIND", row("A", "aA"), 2}, {"FIND", row("\xa4", "\xc3\xa4"), 2}, {"FIND", row("\x00", "a\x00"), 2}, {"FIND", row("\xff", "\xef\xbf\xbd"), api.CodeMiss},
	})
}

// The row SUBST: what is looked for overlaps itself, is the whole, is in what it is replaced by, or grows past the text.
func TestSubst(t *testing.T) {
	checks(t, 8, []ask{
		{"SUBST", row("aaaa", "aa", "b"), "bb"}, {"SUBST", row("aaaaa", "aa", "b"), "bba"}, {"SUBST", row("ababa", "aba", "x"), "xba"}, {"SUBST", row("abababa", "aba", "x"), "xbx"}, {"SUBST", row("abc", "abc", "x"), "x"}, {"SUBST", row("abc", "abc", ""), ""}, {"SUBST", row("abc", "abcd", "x"), "abc"},
		{"SUBST", row("aab", "ab", "b"), "ab"}, {"SUBST", row("aabb", "ab", ""), "ab"}, {"SUBST", row("abc", "x", "y"), "abc"}, {"SUBST", row("abc", "b", "b"), "abc"}, {"SUBST", row("aa", "a", "aa"), "aaaa"}, {"SUBST", row("abc", "A", "x"), "abc"},
		{"SUBST", row("aaaa", "a", "bb"), "bbbbbbbb"}, {"SUBST", row("aaaax", "a", "bb"), api.CodeLong}, {"SUBST", row("abcdefgh", "h", "ij"), api.CodeLong}, {"SUBST", row("abcdefghi", "hi", "j"), "abcdefgj"}, {"SUBST", row("abcdefghi", "x", "j"), api.CodeLong},
		{"SUBST", row("\xc3\xa4", "\xa4", "x"), "\xc3x"}, {"SUBST", row("\xff\xfe", "\xef\xbf\xbd", "x"), "\xff\xfe"}, {"SUBST", row("abcdefghi", "", "x"), api.CodeArg},
	})
}

// The row TRIM: blanks at both ends and several in a row; no other byte is one.
func TestTrim(t *testing.T) {
	checks(t, 16, []ask{
		{"TRIM", row("a"), "a"}, {"TRIM", row(" a"), "a"}, {"TRIM", row("a "), "a"}, {"TRIM", row("   a   "), "a"}, {"TRIM", row("a b"), "a b"}, {"TRIM", row("a     b"), "a b"}, {"TRIM", row(" "), ""}, {"TRIM", row("      "), ""}, {"TRIM", row("  a  b   c    "), "a b c"},
		{"TRIM", row("\ta\n"), "\ta\n"}, {"TRIM", row(" \t "), "\t"}, {"TRIM", row("a\t\tb"), "a\t\tb"}, {"TRIM", row("a \t b"), "a \t b"}, {"TRIM", row("\x00 \x00"), "\x00 \x00"}, {"TRIM", row("\xc2\xa0a\xc2\xa0"), "\xc2\xa0a\xc2\xa0"}, {"TRIM", row("\xff  \xff "), "\xff \xff"}, {"TRIM", row("\xa0a\xa0"), "\xa0a\xa0"},
	})
}

// The rows UPPER, LOWER, REV, ORD, CHAR, LEN: each byte alone, and all of them in a row.
func TestBytes(t *testing.T) {
	all, upper, lower, back := "", "", "", ""
	for b := range 256 {
		one := string([]byte{byte(b)})
		up, low := one, one
		if b >= 97 && b <= 122 {
			up = string([]byte{byte(b - 32)})
		}
		if b >= 65 && b <= 90 {
			low = string([]byte{byte(b + 32)})
		}
		checks(t, 1, []ask{{"UPPER", row(one), up}, {"LOWER", row(one), low}, {"REV", row(one), one}, {"ORD", row(one), b}, {"ORD", row(one + "\xff"), b}, {"CHAR", row(b), one}, {"LEN", row(one), 1}, {"FIND", row(one, one+one), 1}, {"EXACT", row(one, one), true}})
		all, upper, lower, back = all+one, upper+up, lower+low, one+back
	}
	checks(t, 256, []ask{{"UPPER", row(all), upper}, {"LOWER", row(all), lower}, {"REV", row(all), back}, {"LEN", row(all), 256}, {"CONCAT", row(all), all}, {"LEFT", row(all, 256), all}, {"RIGHT", row(all, 1), "\xff"}})
	checks(t, 8, []ask{
		{"UPPER", row("\xc3\xa4a"), "\xc3\xa4A"}, {"LOWER", row("\xc3\x84A"), "\xc3\x84a"}, {"UPPER", row("\xc5\xbf"), "\xc5\xbf"}, {"LOWER", row("\xe2\x84\xaa"), "\xe2\x84\xaa"}, {"REV", row("\xc3\xa4"), "\xa4\xc3"}, {"LEN", row("\xc3\xa4"), 2}, {"LEFT", row("\xc3\xa4"), "\xc3"}, {"RIGHT", row("\xc3\xa4"), "\xa4"}, {"ORD", row("\xc3\xa4"), 195}, {"MID", row("a\xc3\xa4", 3, 1), "\xa4"},
	})
}

// The row CONCAT: one, 16 and 17 arguments, and none.
func TestConcat(t *testing.T) {
	checks(t, 32, []ask{
		{"CONCAT", nil, api.CodeArg}, {"CONCAT", []api.Arg{}, api.CodeArg}, {"CONCAT", row("ab"), "ab"}, {"CONCAT", row("b", "a"), "ba"},
		{"CONCAT", row("a", "b", "c", "d", "e", "f", "g", "h", "i", "j", "k", "l", "m", "n", "o", "p"), "abcdefghijklmnop"}, {"CONCAT", row("a", "b", "c", "d", "e", "f", "g", "h", "i", "j", "k", "l", "m", "n", "o", "p", "q"), api.CodeArg},
		{"CONCAT", slices.Repeat(row(12), 16), strings.Repeat("12", 16)}, {"CONCAT", slices.Repeat(row(123), 16), api.CodeLong}, {"CONCAT", make([]api.Arg, 16), ""}, {"CONCAT", make([]api.Arg, 17), api.CodeArg},
	})
}

// The rows EXACT and NUM: bytes that differ, texts of numbers by chapter 1, and texts that are none.
func TestExactAndNum(t *testing.T) {
	checks(t, 8, []ask{
		{"EXACT", row("abc", "abc"), true}, {"EXACT", row("abc", "abd"), false}, {"EXACT", row("abc", "ab"), false}, {"EXACT", row("a", "a "), false}, {"EXACT", row("\xff", "\xfe"), false}, {"EXACT", row("\xff", "\xef\xbf\xbd"), false}, {"EXACT", row("1.50", parts(15000)), false}, {"EXACT", row(2, 2), true}, {"EXACT", row(true, true), true}, {"EXACT", row(true, false), false},
		{"NUM", row("0"), 0}, {"NUM", row("-1.50"), parts(-15000)}, {"NUM", row("0.0001"), parts(1)}, {"NUM", row("922337203685477.5807"), parts(greatest)}, {"NUM", row("-922337203685477.5807"), parts(-greatest)}, {"NUM", row(parts(-greatest)), parts(-greatest)}, {"NUM", row(parts(greatest)), parts(greatest)},
	})
	for _, s := range []string{"922337203685477.5808", "-922337203685477.5808", "-0", "-0.0", "01", "1.", ".5", "1.00000", "+1", " 1", "1 ", "1e3", "1,5", "--1", "TRUE", "1\x00", "1000000000000000", "\xd9\xa1"} {
		calls(t, 8, api.CodeType, "NUM", row(s)...)
	}
}

// P9.2: the order of what is wrong.
func TestOrder(t *testing.T) {
	wrong, half := api.Value{Num: 1}, parts(5000)
	many := api.Arg{Many: true, Rect: api.Rect{Top: 1, Left: 1, Bottom: 2, Right: 2}}
	long := strings.Repeat("x", 9)
	checks(t, 8, []ask{
		// A name or arguments that are not taken, ahead of Faults.
		{"NONE", row(api.CodeDiv), api.CodeArg}, {"LEN", row(api.CodeDiv, api.CodeDiv), api.CodeArg}, {"SUBST", row(api.CodeDiv), api.CodeArg}, {"LEN", row(api.Arg{Many: true, Value: fault(api.CodeDiv)}), api.CodeArg},
		// An argument that may not be, also behind a Fault.
		{"LEFT", row(api.CodeDiv, wrong), api.CodeArg}, {"LEFT", row(wrong, api.CodeDiv), api.CodeArg}, {"LEFT", row("a", "x", wrong), api.CodeArg}, {"MID", row(api.CodeDiv, "x", parts(math.MinInt64)), api.CodeArg}, {"CONCAT", row(api.CodeDiv, many), api.CodeArg}, {"CONCAT", row(many, api.CodeDiv), api.CodeArg},
		{"CONCAT", append(slices.Repeat(row(api.CodeDiv), 15), row(wrong)...), api.CodeArg}, {"CONCAT", row(api.CodeDiv, api.Arg{Value: text("a"), Rect: api.Rect{Right: 1}}), api.CodeArg}, {"CONCAT", row(api.CodeDiv, api.Arg{Value: text("a"), Entries: []api.Entry{{}}}), api.CodeArg}, {"LEFT", row("a", wrong), api.CodeArg}, {"MID", row("a", "x", wrong), api.CodeArg},
		// The first Fault, also behind an argument that cannot be taken.
		{"EXACT", row(api.CodeDiv, api.CodeMiss), api.CodeDiv}, {"EXACT", row(api.CodeMiss, api.CodeDiv), api.CodeMiss}, {"MID", row("a", "x", api.CodeDiv), api.CodeDiv}, {"MID", row("a", half, api.CodeDiv), api.CodeDiv}, {"MID", row("a", api.CodeNum, "x"), api.CodeNum}, {"MID", row(api.CodeLong, api.CodeNum, api.CodeDiv), api.CodeLong},
		{"LEFT", row(api.CodeDiv, -1), api.CodeDiv}, {"SUBST", row("a", "", api.CodeMiss), api.CodeMiss}, {"REPT", row(api.CodeCycle, 99), api.CodeCycle}, {"CONCAT", row(long, long, api.CodeDiv), api.CodeDiv}, {"FIND", row("a", api.CodeType, "x"), api.CodeType}, {"CONCAT", append(slices.Repeat(row(long), 15), row(api.CodeDiv)...), api.CodeDiv},
		// The first Code that comes of taking them, from the left.
		{"MID", row("a", "x", half), api.CodeType}, {"MID", row("a", half, "x"), api.CodeArg}, {"MID", row("a", 0, "x"), api.CodeType}, {"MID", row("a", "x", -1), api.CodeType}, {"MID", row("a", 1, "x"), api.CodeType}, {"MID", row(long, 1, half), api.CodeArg},
		{"REPT", row(long, "x"), api.CodeType}, {"REPT", row(long, half), api.CodeArg}, {"FIND", row("x", "a", "1"), api.CodeType}, {"FIND", row("x", "a", half), api.CodeArg}, {"LEFT", row(long, "9"), api.CodeType}, {"RIGHT", row(long, half), api.CodeArg},
		// Then what the table says, and too long a text in the end.
		{"REPT", row(long, -1), api.CodeArg}, {"SUBST", row(long, "", long), api.CodeArg}, {"FIND", row("x", "a", -1), api.CodeArg}, {"LEFT", row(long, -1), api.CodeArg}, {"MID", row(long, 0, 9), api.CodeArg}, {"MID", row(long, 1, -9), api.CodeArg}, {"MID", row(long, 1, 9), api.CodeLong},
	})
	calls(t, 0, api.CodeArg, "CHAR", row(256)...)
	calls(t, 0, api.CodeLong, "CHAR", row(255)...)
	for name, k := range rows() {
		for _, n := range k.few() {
			for c := api.CodeCycle; c <= api.CodeArg; c++ {
				for i := range n {
					args := k.plain(n)
					args[i] = row(c)[0]
					calls(t, 8, c, name, args...)
				}
			}
		}
	}
}
