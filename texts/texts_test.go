package texts

import (
	"math/rand"
	"slices"
	"strings"
	"testing"

	"oriel/api"
)

// The chapter's examples.
func TestExamples(t *testing.T) {
	checks(t, 8, []ask{
		{"LEN", row("abc"), 3}, {"LEN", row(parts(15000)), 3}, {"LEN", row(true), 4}, {"LEN", row(""), 0},
		{"LEFT", row("abc"), "a"}, {"LEFT", row("abc", 9), "abc"}, {"RIGHT", row("abc", 2), "bc"}, {"LEFT", row("abc", -1), api.CodeArg}, {"LEFT", row("a", parts(5000)), api.CodeArg},
		{"MID", row("abcd", 2, 2), "bc"}, {"MID", row("ab", 5, 1), ""}, {"MID", row("ab", 0, 1), api.CodeArg},
		{"UPPER", row("aB1"), "AB1"}, {"LOWER", row("aB1"), "ab1"}, {"TRIM", row("  a  b "), "a b"},
		{"REPT", row("ab", 3), "ababab"}, {"REPT", row("ab", 5), api.CodeLong}, {"REPT", row("", 1000000000), ""}, {"REPT", row("a", -1), api.CodeArg},
		{"FIND", row("b", "abab"), 2}, {"FIND", row("b", "abab", 3), 4}, {"FIND", row("", "ab", 3), 3}, {"FIND", row("", "ab", 4), api.CodeMiss}, {"FIND", row("x", "a"), api.CodeMiss}, {"FIND", row("a", "a", 0), api.CodeArg},
		{"SUBST", row("aaa", "aa", "b"), "ba"}, {"SUBST", row("abc", "", "x"), api.CodeArg}, {"SUBST", row("aaaa", "a", "abc"), api.CodeLong},
		{"CONCAT", row("a", 1, true), "a1TRUE"}, {"CONCAT", row("abcde", "fghi"), api.CodeLong},
		{"ORD", row("A"), 65}, {"ORD", row(""), api.CodeArg}, {"CHAR", row(65), "A"}, {"CHAR", row(256), api.CodeArg}, {"EXACT", row("a", "A"), false}, {"EXACT", row(1, "1"), true},
		{"REV", row("abc"), "cba"}, {"NUM", row("1.5"), parts(15000)}, {"NUM", row("x"), api.CodeType}, {"NUM", row(2), 2}, {"NUM", row(""), api.CodeType},
		{"LEFT", row(api.CodeDiv, "x"), api.CodeDiv}, {"LEFT", row("a", "x"), api.CodeType},
	})
}

// otherNames are none of the table's.
func otherNames() []string {
	list := []string{"", " ", "NONE", "ABS", "SUM", "JOIN", "IF", "ASK", "TRUE", "SUBSTITUTE", "LENGTH", "LEN ", " LEN", "LEN\x00", "LE", "\xff", "LÉN", "0", strings.Repeat("LEN", 1<<16)}
	for name := range rows() {
		list = append(list, strings.ToLower(name), name+name, name+"1", name[1:], name[:len(name)-1])
	}
	return list
}

// P9.1: just the names of the table are known.
func TestKnown(t *testing.T) {
	if len(rows()) != 16 {
		t.Fatal("the table has 16 names")
	}
	for name := range rows() {
		if !Known(name) {
			t.Errorf("%s is not known", name)
		}
	}
	for _, name := range otherNames() {
		if Known(name) {
			t.Errorf("%.20q is known", name)
		}
	}
}

// P9.1: so many arguments are taken, and no rectangle among them.
func TestTakes(t *testing.T) {
	for name, k := range rows() {
		for n := range 40 {
			rects := make([]bool, n)
			if Takes(name, rects) != (n >= k.least && n <= len(k.places)) {
				t.Errorf("Takes(%s, %d arguments) is wrong", name, n)
			}
			for i := range rects {
				rects[i] = true
				if Takes(name, rects) {
					t.Errorf("Takes(%s, a rectangle at %d of %d)", name, i, n)
				}
				rects[i] = false
			}
		}
		for _, rects := range [][]bool{nil, {}, make([]bool, 1<<20), slices.Repeat([]bool{true}, k.least)} {
			if Takes(name, rects) {
				t.Errorf("Takes(%s, %s)", name, brief(rects))
			}
		}
	}
	for _, name := range otherNames() {
		for n := range 18 {
			if Takes(name, make([]bool, n)) {
				t.Errorf("Takes(%.20q, %d arguments)", name, n)
			}
		}
	}
}

// P9.2: a call refuses what Takes refuses, whatever stands in the arguments.
func TestCallTakes(t *testing.T) {
	names := otherNames()
	for name := range rows() {
		names = append(names, name)
	}
	for _, name := range names {
		for n := range 40 {
			for _, a := range row(api.Value{}, 1, "x", api.CodeDiv) {
				if !Takes(name, make([]bool, n)) {
					calls(t, 8, api.CodeArg, name, slices.Repeat([]api.Arg{a}, n)...)
				}
			}
		}
		calls(t, 8, api.CodeArg, name, make([]api.Arg, 1<<16)...)
	}
}

// P9.2: numbers, truths and Blank are taken for texts in each place of one.
func TestTakenForTexts(t *testing.T) {
	blank, half := api.Value{}, parts(-5000)
	checks(t, 20, []ask{
		{"LEN", row(half), 4}, {"LEN", row(false), 5}, {"LEN", row(blank), 0}, {"LEN", row(parts(-greatest)), 21},
		{"LEFT", row(true, 2), "TR"}, {"LEFT", row(125, 2), "12"}, {"LEFT", row(half), "-"}, {"LEFT", row(blank), ""}, {"LEFT", row(blank, 3), ""},
		{"RIGHT", row(false, 2), "SE"}, {"RIGHT", row(half, 2), ".5"}, {"RIGHT", row(blank), ""}, {"MID", row(true, 2, 2), "RU"}, {"MID", row(half, 2, 2), "0."}, {"MID", row(blank, 1, 1), ""},
		{"UPPER", row(half), "-0.5"}, {"UPPER", row(true), "TRUE"}, {"UPPER", row(blank), ""}, {"LOWER", row(true), "true"}, {"LOWER", row(12), "12"}, {"LOWER", row(blank), ""},
		{"TRIM", row(half), "-0.5"}, {"TRIM", row(false), "FALSE"}, {"TRIM", row(blank), ""}, {"REPT", row(12, 2), "1212"}, {"REPT", row(true, 2), "TRUETRUE"}, {"REPT", row(blank, 2), ""},
		{"FIND", row(5, half), 4}, {"FIND", row(true, "xTRUE"), 2}, {"FIND", row(blank, "x"), 1}, {"FIND", row("U", true), 3}, {"FIND", row(2, 1212, 3), 4}, {"FIND", row("x", blank), api.CodeMiss}, {"FIND", row(blank, blank), 1},
		{"SUBST", row(1212, 2, true), "1TRUE1TRUE"}, {"SUBST", row(true, "T", half), "-0.5RUE"}, {"SUBST", row("a1b", 1, blank), "ab"}, {"SUBST", row(blank, 1, 2), ""}, {"SUBST", row("a", blank, "b"), api.CodeArg},
		{"CONCAT", row(half, blank, true, "x", 3, false), "-0.5TRUEx3FALSE"}, {"CONCAT", row(blank), ""}, {"CONCAT", row(parts(10001)), "1.0001"},
		{"ORD", row(half), 45}, {"ORD", row(true), 84}, {"ORD", row(blank), api.CodeArg}, {"EXACT", row(true, "TRUE"), true}, {"EXACT", row("TRUE", 1), false}, {"EXACT", row(blank, ""), true}, {"EXACT", row(blank, 0), false}, {"EXACT", row("-0.5", half), true},
		{"REV", row(half), "5.0-"}, {"REV", row(true), "EURT"}, {"REV", row(blank), ""}, {"NUM", row(half), half}, {"NUM", row(true), api.CodeType}, {"NUM", row(blank), api.CodeType},
	})
}

// P9.2: truths and Blank are taken for numbers in each place of one, texts are not, also those that read like numbers.
func TestTakenForNumbers(t *testing.T) {
	blank := api.Value{}
	checks(t, 8, []ask{
		{"LEFT", row("abc", true), "a"}, {"LEFT", row("abc", false), ""}, {"LEFT", row("abc", blank), ""}, {"RIGHT", row("abc", true), "c"}, {"RIGHT", row("abc", blank), ""},
		{"MID", row("abc", true, 2), "ab"}, {"MID", row("abc", 2, true), "b"}, {"MID", row("abc", 2, blank), ""}, {"MID", row("abc", blank, 1), api.CodeArg}, {"MID", row("abc", false, 1), api.CodeArg},
		{"REPT", row("ab", true), "ab"}, {"REPT", row("ab", false), ""}, {"REPT", row("ab", blank), ""}, {"FIND", row("b", "bb", true), 1}, {"FIND", row("b", "bb", blank), api.CodeArg}, {"FIND", row("b", "bb", false), api.CodeArg},
		{"CHAR", row(true), "\x01"}, {"CHAR", row(false), "\x00"}, {"CHAR", row(blank), "\x00"},
	})
	for name, k := range rows() {
		for i := range k.places {
			if k.places[i] != 'n' {
				continue
			}
			for _, s := range []string{"", "x", "1", "-1.5", "0", "TRUE", "#DIV!", strings.Repeat("9", 2000)} {
				args := k.plain(len(k.places))
				args[i].Value = text(s)
				calls(t, 8, api.CodeType, name, args...)
			}
		}
	}
}

// numbers are whole ones around the ends of short texts, and some with parts.
func numbers() []api.Value {
	var list []api.Value
	for n := int64(-2); n <= 7; n++ {
		list = append(list, whole(n))
	}
	return append(list, parts(5000), parts(9999), parts(-10001), whole(greatestWhole), whole(-greatestWhole), parts(greatest), parts(-greatest))
}

// P9.2 and each row of the table of one text, and numbers: all short texts, held against the model.
func TestOneText(t *testing.T) {
	list := append(shortTexts("ab \xff", 5), shortTexts("zZ@[`{", 3)...)
	list = append(list, shortTexts("-.019", 4)...)
	for name, k := range rows() {
		if strings.Contains(k.places, "ss") || k.places[0] == 'n' {
			continue
		}
		for _, s := range list {
			for most := range 7 {
				for _, n := range k.few() {
					models(t, most, name, append(row(s), k.plain(n)[1:]...))
				}
			}
		}
		if k.places == "s" {
			continue
		}
		for _, s := range shortTexts("ab", 5) {
			for _, n := range numbers() {
				models(t, 4, name, row(s, n))
				for _, m := range numbers() {
					models(t, 4, name, row(s, n, m))
				}
			}
		}
	}
}

// P9.2 and the rows of several texts: all short texts in all places, held against the model.
func TestSeveralTexts(t *testing.T) {
	list := shortTexts("ab", 4)
	for _, s := range list {
		for _, p := range shortTexts("ab", 3) {
			models(t, 5, "EXACT", row(s, p))
			models(t, 5, "CONCAT", row(s, p))
			models(t, 5, "FIND", row(p, s))
			for _, n := range numbers() {
				models(t, 5, "FIND", row(p, s, n))
			}
			for _, u := range shortTexts("ab", 3) {
				models(t, 5, "SUBST", row(s, p, u))
				models(t, 5, "CONCAT", row(s, p, u))
			}
		}
	}
}

// P9.2 and the row CHAR: all numbers around those of bytes.
func TestChar(t *testing.T) {
	for n := -300; n <= 600; n++ {
		models(t, 1, "CHAR", row(n))
		models(t, 1, "CHAR", row(parts(int64(n)*10000+5000)))
		models(t, 1, "CHAR", row(parts(int64(n)*10000+1)))
	}
	checks(t, 1, []ask{
		{"CHAR", row(0), "\x00"}, {"CHAR", row(127), "\x7f"}, {"CHAR", row(128), "\x80"}, {"CHAR", row(255), "\xff"}, {"CHAR", row(-1), api.CodeArg}, {"CHAR", row(256), api.CodeArg}, {"CHAR", row(256 + 65), api.CodeArg},
		{"CHAR", row(1<<32 + 65), api.CodeArg}, {"CHAR", row(greatestWhole), api.CodeArg}, {"CHAR", row(-greatestWhole), api.CodeArg}, {"CHAR", row(parts(greatest)), api.CodeArg}, {"CHAR", row(parts(650001)), api.CodeArg},
	})
}

// P9.2 and each row of the table: random arguments, of which some are of other kinds, or may not be.
func TestRandom(t *testing.T) {
	rnd := rand.New(rand.NewSource(9))
	set, list := append(kinds(), wrongArgs()...), numbers()
	for name, k := range rows() {
		for range 20000 {
			var args []api.Arg
			for _, place := range k.places[:k.least+rnd.Intn(len(k.places)-k.least+1)] {
				switch {
				case rnd.Intn(20) == 0:
					args = append(args, set[rnd.Intn(len(set))])
				case place == 's':
					args = append(args, row(randomText(rnd, 12))...)
				default:
					args = append(args, row(list[rnd.Intn(len(list))])...)
				}
			}
			models(t, rnd.Intn(24), name, args)
		}
	}
}

// P9.2: all rows of up to two arguments, and some of three, of each kind, those that may not be among them.
func TestAllKinds(t *testing.T) {
	set, names := append(kinds(), wrongArgs()...), []string{"NONE", ""}
	for name := range rows() {
		names = append(names, name)
	}
	few := append(kinds(), wrongArgs()[:2]...)
	few = append(few, wrongArgs()[len(wrongArgs())-14:]...)
	for _, name := range names {
		models(t, 8, name, nil)
		for _, a := range set {
			models(t, 8, name, []api.Arg{a})
			for _, b := range set {
				models(t, 8, name, []api.Arg{a, b})
			}
		}
	}
	for _, name := range []string{"MID", "FIND", "SUBST", "CONCAT", "LEFT"} {
		for _, a := range few {
			for _, b := range few {
				for _, c := range few {
					models(t, 8, name, []api.Arg{a, b, c})
				}
			}
		}
	}
}

// P9.2: an argument that may not be is refused at each place.
func TestWrongArgs(t *testing.T) {
	for name, k := range rows() {
		for n := k.least; n <= len(k.places); n++ {
			for i := range n {
				for _, a := range wrongArgs() {
					args := k.plain(n)
					args[i] = a
					calls(t, 8, api.CodeArg, name, args...)
				}
			}
		}
	}
}
