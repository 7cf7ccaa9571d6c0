package content

import (
	"fmt"
	"math"
	"math/rand"
	"testing"

	"oriel/api"
	"oriel/funcs"
)

// P13.1: a text of just most bytes is read, one of a byte more is too long: a literal, a formula and one that is wrong.
func TestMost(t *testing.T) {
	table := funcs.New()
	for _, s := range all() {
		want, code, at := model(s, len(s), table)
		for _, most := range []int{len(s), len(s) + 1, len(s) + 1000, api.MaxText + len(s), math.MaxInt32 + len(s), math.MaxInt - 1, math.MaxInt} {
			if c, wrong, place := Read(s, most, table); wrong != code || place != at || !same(c, want) {
				t.Errorf("Read(%s, %d) = %s, %d, %d", brief(s), most, brief(c), wrong, place)
			}
		}
		for _, most := range []int{len(s) - 1, len(s) / 2, 1, 0, -1, -2, -len(s), -1024, math.MinInt32, math.MinInt + 1, math.MinInt} {
			if most < len(s) {
				refuses(t, s, most, table, api.ErrTooLong, 0)
			}
		}
	}
}

// P13.1: most may be 0: the empty text has as many bytes, no other has.
func TestMostNought(t *testing.T) {
	table := funcs.New()
	if c, code, at := Read("", 0, table); code != api.OK || at != 0 || !same(c, Content{}) {
		t.Errorf("the empty text with 0: %s, %d, %d", brief(c), code, at)
	}
	for first := range 256 {
		refuses(t, string([]byte{byte(first)}), 0, table, api.ErrTooLong, 0)
	}
}

// P13.1: bytes are counted, not letters; a text behind a `'` counts with it.
func TestMostBytes(t *testing.T) {
	table := funcs.New()
	for _, s := range []string{"éé", "日", "'abc", "\xff\xff\xff\xff", "\x00\x00\x00\x00"} {
		refuses(t, s, len(s)-1, table, api.ErrTooLong, 0)
		if c, code, _ := Read(s, len(s), table); code != api.OK || !same(c, Content{Text: s, Value: valued(s)}) {
			t.Errorf("Read(%q, %d) = %s, %d", s, len(s), brief(c), code)
		}
	}
}

// P13.1: long texts of each kind, at a sheet's most and far beyond it.
func TestLong(t *testing.T) {
	for _, size := range []int{1023, 1024, 1025, 5000, 1 << 20} {
		says(t, times(size, "x"), text(times(size, "x")))
		says(t, times(size, "1"), text(times(size, "1")))
		says(t, times(size, "-"), text(times(size, "-")))
		says(t, times(size, "'"), text(times(size-1, "'")))
		says(t, times(size, " "), text(times(size, " ")))
		says(t, "'"+times(size, "9"), text(times(size, "9")))
		long := times(size, "y")
		formulates(t, `="`+long+`"`, []api.Node{val(text(long))})
		formulates(t, "="+times(size, " ")+"A1", []api.Node{cell(1, 1)}, one(1, 1))
		refuses(t, times(size, "="), size, funcs.New(), api.ErrSyntax, 1)
	}
}

// P1.6: the greatest and the least number, and what is beyond.
func TestGreatest(t *testing.T) {
	says(t, "922337203685477.5807", number(math.MaxInt64))
	says(t, "-922337203685477.5807", number(-math.MaxInt64))
	says(t, "922337203685477.5806", number(math.MaxInt64-1))
	says(t, "-922337203685477.5806", number(1-math.MaxInt64))
	for _, s := range []string{"922337203685477.5808", "-922337203685477.5808", "-922337203685477.5809", "922337203685477.9999", "922337203685478", "-922337203685478", "999999999999999", "999999999999999.9999", "1000000000000000", "9223372036854775807"} {
		says(t, s, text(s))
	}
	formulates(t, "=922337203685477.5807", []api.Node{val(number(math.MaxInt64))})
	refuses(t, "=922337203685477.5808", 64, funcs.New(), api.ErrSyntax, 1)
}

// P1.6: numbers of each count of digits and of places are read, one digit or place more is not.
func TestDigits(t *testing.T) {
	for digits := 1; digits <= 17; digits++ {
		for places := 0; places <= 6; places++ {
			for _, sign := range []string{"", "-"} {
				for _, digit := range []string{"1", "0", "5", "9"} {
					s := sign + times(digits, digit)
					if places > 0 {
						s += "." + times(places, digit)
					}
					says(t, s, valued(s))
					if want := valued(s); digit == "1" && (want.Tag == api.Number) != (digits <= 15 && places <= 4) {
						t.Errorf("%s: %+v", s, want)
					}
				}
			}
		}
	}
}

// P13.1: a `'` alone, and several.
func TestQuotes(t *testing.T) {
	says(t, "'", text(""))
	says(t, "''", text("'"))
	says(t, "'''", text("''"))
	says(t, "' ", text(" "))
	says(t, " '", text(" '"))
	says(t, "a'", text("a'"))
	says(t, "'a'", text("a'"))
	says(t, "'=1", text("=1"))
	says(t, "'TRUE", text("TRUE"))
	says(t, "'\x00", text("\x00"))
	says(t, "'\xff", text("\xff"))
	says(t, "\"", text("\""))
	says(t, "`1", text("`1"))
}

// P13.1: blanks are bytes like any: ahead and behind they make a Text of all of it.
func TestBlanks(t *testing.T) {
	for _, blank := range []string{" ", "  ", "\t", "\n", "\r", "\v", "\f", "\x00", "\u00a0", "\u3000", "\ufeff"} {
		for _, s := range []string{"1", "-3", "12.5", "TRUE", "FALSE", "=1", "=", "=A1+", "'", "'a", "a", "="} {
			says(t, blank+s, text(blank+s))
			if s[0] != '=' && s[0] != '\'' {
				says(t, s+blank, text(s+blank))
			}
		}
		says(t, "'"+blank, text(blank))
		says(t, "'1"+blank, text("1"+blank))
		says(t, blank, text(blank))
	}
	formulates(t, "= 1", []api.Node{val(number(10000))})
	formulates(t, "=1 ", []api.Node{val(number(10000))})
}

// P13.1: each byte, alone, ahead of and behind something, is what the chapter says.
func TestEachByte(t *testing.T) {
	table := funcs.New()
	for first := range 256 {
		b := string([]byte{byte(first)})
		for _, s := range []string{b, b + b, b + "1", "1" + b, b + "TRUE", "TRUE" + b, b + "FALSE", "FALSE" + b, b + "'a", "'" + b, b + "=1", "=" + b, "=1" + b, "=\"" + b + "\"", "-" + b, b + ".5", "0." + b, "T" + b, "F" + b, "TRU" + b, "FALS" + b, b + "RUE", b + "ALSE"} {
			want, code, at := model(s, 16, table)
			if c, wrong, place := Read(s, 16, table); wrong != code || place != at || !same(c, want) {
				t.Errorf("Read(%q) = %s, %d, %d; want %s, %d, %d", s, brief(c), wrong, place, brief(want), code, at)
			}
		}
		switch {
		case b == "=":
			refuses(t, b, 1, table, api.ErrSyntax, 1)
		case b == "'":
			says(t, b, text(""))
		case first >= '0' && first <= '9':
			says(t, b, number(int64(first-'0')*10000))
		default:
			says(t, b, text(b))
		}
	}
}

// P13.1: only a `=` ahead of all makes a formula.
func TestWhereFormulasBegin(t *testing.T) {
	for _, s := range []string{"A1", "1", "1=1", "TRUE=1", "-=1", "1+1", "SUM(A1:B2)", "\"=1\"", "＝1", ">=1", "<=1"} {
		says(t, s, valued(s))
	}
	says(t, "1", number(10000))
	formulates(t, "=1=1", []api.Node{val(number(10000)), val(number(10000)), op(api.OpEq)})
	refuses(t, "==1", 16, funcs.New(), api.ErrSyntax, 1)
}

// P13.1, R2: no table ahead of a text that is too long, that ahead of what is wrong with a formula.
func TestOrder(t *testing.T) {
	table := funcs.New()
	for _, s := range []string{"", "1", "x", "'", "=1", "=1+", "=", "=NONE(1)", "=" + times(33, "("), times(2000, "x"), "=" + times(2000, "(")} {
		for _, most := range []int{math.MinInt, -1, 0, len(s) - 1, len(s), 1024, math.MaxInt} {
			refuses(t, s, most, nil, api.ErrArg, 0)
			if len(s) > most {
				refuses(t, s, most, table, api.ErrTooLong, 0)
			}
		}
	}
	refuses(t, "="+times(33, "("), 34, table, api.ErrTooDeep, 33)
	refuses(t, "="+times(33, "("), 33, table, api.ErrTooLong, 0)
	refuses(t, "=1+", 3, table, api.ErrSyntax, 3)
	refuses(t, "=1+", 2, table, api.ErrTooLong, 0)
}

// P13.1: a formula's limits are parse's: 32 brackets, 1024 nodes, 16 arguments, 16 bytes of a name.
func TestFormulaLimits(t *testing.T) {
	table := funcs.New()
	for open := 30; open <= 35; open++ {
		s := "=" + times(open, "(") + "A1" + times(open, ")")
		if open <= 32 {
			formulates(t, s, []api.Node{cell(1, 1)}, one(1, 1))
		} else {
			refuses(t, s, len(s), table, api.ErrTooDeep, 33)
		}
	}
	for _, count := range []int{1022, 1023} {
		s := "=1" + times(count, "%")
		if c, code, _ := Read(s, len(s), table); code != api.OK || len(c.Formula.Nodes) != count+1 || len(c.Refs) != 0 {
			t.Errorf("%d nodes: %d", count+1, code)
		}
	}
	refuses(t, "=1"+times(1024, "%"), 2000, table, api.ErrSyntax, 1025)
	if c, code, _ := Read("=SUM("+times(15, "A1:B2,")+"C1)", 1024, table); code != api.OK || !same(Content{Refs: c.Refs}, Content{Refs: []api.Ref{many(1, 1, 2, 2), one(1, 3)}}) {
		t.Errorf("16 arguments: %d, %v", code, c.Refs)
	}
	refuses(t, "=SUM("+times(16, "A1:B2,")+"C1)", 1024, table, api.ErrSyntax, 5+16*6-1)
}

// P13.1: as many references as a formula has cells, in their order.
func TestManyReferences(t *testing.T) {
	table := funcs.New()
	s, want := "=A1", []api.Ref{one(1, 1)}
	for i := 2; i <= 512; i++ {
		s += fmt.Sprintf("+A%d", i)
		want = append(want, one(i, 1))
	}
	c, code, _ := Read(s, len(s), table)
	if code != api.OK || !same(Content{Refs: c.Refs}, Content{Refs: want}) || len(c.Formula.Nodes) != 1023 {
		t.Errorf("512 cells: %d, %d references", code, len(c.Refs))
	}
}

// P13.1, by chance: what is read is what the chapter's list says.
func TestByChance(t *testing.T) {
	rnd, table, list := rand.New(rand.NewSource(131)), funcs.New(), all()
	for range 60000 {
		s := random(rnd, list)
		most := []int{len(s), len(s) - 1, len(s) + 1, rnd.Intn(20), 1024, 1 << 40}[rnd.Intn(6)]
		want, code, at := model(s, most, table)
		if c, wrong, place := Read(s, most, table); wrong != code || place != at || !same(c, want) {
			t.Fatalf("Read(%s, %d) = %s, %d, %d; want %s, %d, %d", brief(s), most, brief(c), wrong, place, brief(want), code, at)
		}
	}
}
