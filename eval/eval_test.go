package eval

import (
	"math"
	"strings"
	"testing"

	"oriel/api"
	"oriel/funcs"
)

// The examples of the chapter.
func TestExamples(t *testing.T) {
	s := column(2, "ab", skip{})
	checks(t, 4, echo(), s, []check{
		{"=A1+1.5", 3.5}, {"=A1/0", api.CodeDiv}, {"=A2+1", api.CodeType}, {"=A3+1", 1}, {"=A1%", 0.02},
		{"=A2&A1", "ab2"}, {`=A2&"xyz"`, api.CodeLong}, {`="abcde"`, api.CodeLong},
		{`=A1="2"`, false}, {"=A1<A2", true}, {"=A3=0", true}, {`=A3=""`, true}, {"=A2/0=1", api.CodeType},
		{"=ASK(A1)", 2}, {"=ASK(A2)", api.CodeType}, {"=-A2", api.CodeType}, {"=(A1/0)&A2", api.CodeDiv},
	})
	checks(t, 4, nil, s, []check{{"=ASK(A1)", api.CodeMiss}})
}

// P12.1: which are made: not without a table, nor with a bound of texts that may not be; without a host too.
func TestNew(t *testing.T) {
	table := funcs.New()
	for _, h := range []api.Host{nil, echo()} {
		for _, most := range []int{1, 2, 8, 1023, 1024} {
			if New(table, most, h) == nil {
				t.Errorf("with the bound %d there is none", most)
			}
			if New(nil, most, h) != nil {
				t.Errorf("there is one without a table, with the bound %d", most)
			}
		}
		for _, most := range []int{math.MinInt, math.MinInt32, -1024, -1, 0, 1025, 1 << 16, 1<<32 + 1, math.MaxInt} {
			if New(table, most, h) != nil || New(nil, most, h) != nil {
				t.Errorf("there is one with the bound %d", most)
			}
		}
	}
	if New(&funcs.Table{}, 1, nil) == nil || New(table, 1, nil) == New(table, 1, nil) {
		t.Error("each call is to make one of its own")
	}
}

// P12.1: it keeps its table, its bound and its host, each its own.
func TestKeeps(t *testing.T) {
	table, s := funcs.New(), sample()
	few, many := New(table, 2, echo()), New(table, 1024, always(text("abc")))
	for range 3 {
		works(t, api.CodeLong, few, s, val("abc"))
		works(t, "abc", many, s, val("abc"))
		works(t, 5, few, s, val(5), fn("ASK", 1))
		works(t, "abc", many, s, val(5), fn("ASK", 1))
		works(t, api.CodeMiss, New(table, 2, nil), s, val(5), fn("ASK", 1))
		works(t, 3, few, s, val("abc"), val(3), fn("IFERR", 2))
		works(t, "abc", many, s, val("abc"), val(3), fn("IFERR", 2))
	}
	asked := 0
	counting := New(table, 8, host{answer: func(n int64) api.Value { asked++; return parts(int64(asked)) }})
	for n := range 5 {
		works(t, parts(int64(n+1)), counting, s, val(0), fn("ASK", 1))
	}
}

// P12.2, NodeValue: its value, of each kind that may stand in a formula.
func TestNodeValue(t *testing.T) {
	e, s := New(funcs.New(), 8, nil), column()
	for _, v := range values() {
		switch {
		case v.Tag == api.Blank, v.Tag == api.Number && v.Num < 0, v.Tag == api.Fault && v.Code == api.CodeCycle:
			works(t, api.CodeArg, e, s, val(v))
		case v.Tag == api.Text && len(v.Str) > 8:
			works(t, api.CodeLong, e, s, val(v))
		default:
			works(t, v, e, s, val(v))
		}
	}
}

// P12.2, NodeCell: what the source tells of it, of each kind, as it is; a cell without content is Blank.
func TestNodeCell(t *testing.T) {
	e := New(funcs.New(), 1, nil)
	for _, v := range values() {
		s := grid{has: map[api.Cell]api.Value{{Row: 3, Col: 2}: v, {Row: 2, Col: 3}: wholes(99)}}
		works(t, v, e, s, cell(3, 2))
		works(t, 99, e, s, cell(2, 3))
		works(t, nil, e, s, cell(3, 3))
	}
	checks(t, 8, nil, sample(), []check{{"=A1", 2}, {"=A2", "ab"}, {"=A3", nil}, {"=A4", true}, {"=A6", api.CodeDiv}, {"=A9", nil}, {"=IV4096", 77}, {"=IV4095", nil}, {"=((B3))", 3}})
}

// P12.2, NodeRect: an argument with Many, its Rect, and the entries that the source tells.
func TestNodeRect(t *testing.T) {
	checks(t, 16, nil, sample(), []check{
		{"=SUM(A1:A5)", 2}, {"=SUM(A1:B3)", 8}, {"=SUM(A1:A1)", 2}, {"=SUM(A3:A3)", 0}, {"=SUM(A1:B6)", api.CodeMiss}, {"=COUNT(A1:B6)", 5}, {"=COUNTA(A1:A10)", 8}, {"=BLANKS(A1:A10)", 2}, {"=BLANKS(C1:E9)", 27},
		{"=ROWS(A1:B6)", 6}, {"=COLS(A1:B6)", 2}, {"=ROWS(A1:IV4096)", 4096}, {"=COLS(A1:IV4096)", 256}, {"=SUM(C5:IV4096)", 77}, {"=INDEX(A1:B6,2,1)", "ab"}, {"=INDEX(A1:B6,2,2)", 2}, {"=INDEX(A1:B6,3,1)", nil}, {"=INDEX(B2:B6,3,1)", api.CodeMiss},
		{"=MATCH(3,B1:B6)", 3}, {`=LOOKUP("ab",A1:A6,B1:B6)`, 2}, {`=JOIN("-",B1:B3,A1:A2)`, "1-2-3-2-ab"}, {`=SUMIF(A1:A3,"ab",B1:B3)`, 2}, {"=MAX(A7:A7,B6:B6,B1:B2)", 2},
		// A rectangle of one cell is no single argument, and the other way round.
		{"=ABS(A1:A1)", api.CodeArg}, {"=ROWS(A1)", api.CodeArg}, {"=IF(A1:A1,1,2)", api.CodeArg},
	})
}

// P12.2, NodeCall: functions of nums, texts, aggs and funcs, alone, within others and within operations.
func TestNodeCall(t *testing.T) {
	checks(t, 8, echo(), sample(), []check{
		{"=ABS(A7)", 1.5}, {"=ROUND(2.5)", 3}, {"=POWER(A1,10)", 1024}, {"=GCD(12,18,B3)", 3}, {"=MOD(-7.5,2)", 0.5}, {"=ABS(A2)", api.CodeType}, {"=ABS(A6)", api.CodeDiv}, {"=SQRT(-1)", api.CodeArg}, {"=FACT(18)", api.CodeNum},
		{"=LEN(A2)", 2}, {`=LEFT("abc",A1)`, "ab"}, {"=REPT(A2,4)", "abababab"}, {"=REPT(A2,5)", api.CodeLong}, {"=UPPER(A2)", "AB"}, {`=CONCAT("a",1,TRUE)`, "a1TRUE"}, {`=FIND("b",A2)`, 2}, {`=NUM("1.5")`, 1.5}, {"=CHAR(65)", "A"},
		{"=IF(A4,1,2)", 1}, {"=IF(A5,1,2)", 2}, {"=IF(A5,1)", false}, {"=IF(A3,1,A3)", nil}, {"=AND(1,A4)", true}, {"=OR(0,A5,A3)", false}, {"=XOR(1,1,1)", true}, {"=NOT(A1)", false}, {"=IFERR(A6,7)", 7}, {"=ISERR(A1/0)", true}, {"=ISBLANK(A3)", true}, {"=TYPE(A2)", 2},
		{"=ERRNO(A6)", 3}, {"=ERR(4)", api.CodeType}, {"=ERR(1)", api.CodeArg}, {`=CHOOSE(2,1,"b",A6)`, "b"}, {"=CHOOSE(3,1,2,A6)", api.CodeDiv}, {"=CHOOSE(4,1,2,A6)", api.CodeRange},
		{"=SUM(1,2,3)*2", 12}, {"=1+MAX(B1:B3)", 4}, {"=-SUM(B1:B3)%", -0.06}, {"=SUM(SUM(B1:B3),SUM(A1:A1,1),SUM(0)-1)", 8}, {`=LEN(A2&A2)&REV("ba")`, "4ab"}, {"=IF(SUM(B1:B3)>5,UPPER(A2),A6)", "AB"},
		{"=MAX(MIN(3,4),MIN(5,6))-MIN(MAX(1,2),MAX(3,4))", 3}, {"=IFERR(1/0,IFERR(A2+1,ISERR(A6)))", true}, {"=LEN(1.5)", 3}, {"=COUNT(1,A2,B1:B6)", 5},
	})
}

// P12.2, NodeCall: a name that is not known, or arguments that are not taken.
func TestNotTaken(t *testing.T) {
	checks(t, 8, echo(), sample(), []check{
		{"=NONE()", api.CodeArg}, {"=NONE(1)", api.CodeArg}, {"=NONE(A6)", api.CodeArg}, {"=NONE(A1:B2)", api.CodeArg}, {"=ASKS(1)", api.CodeArg}, {"=AS(1)", api.CodeArg}, {"=ASK_(1)", api.CodeArg}, {"=A_SK(1)", api.CodeArg}, {"=ABCDEFGHIJKLMNOP(1)", api.CodeArg},
		{"=SUM()", api.CodeArg}, {"=ABS()", api.CodeArg}, {"=ABS(1,2)", api.CodeArg}, {"=ABS(A1:A2)", api.CodeArg}, {"=LEN(A1:A2)", api.CodeArg}, {"=IF(1)", api.CodeArg}, {"=IF(1,2,3,4)", api.CodeArg}, {"=NOT(A4:A4)", api.CodeArg}, {"=ROWS(1)", api.CodeArg}, {"=INDEX(1,1,1)", api.CodeArg},
		{"=ABS(A6,A6)", api.CodeArg}, {"=IFERR(NONE(A6),5)", 5}, {"=1+NONE(1)", api.CodeArg}, {"=ERRNO(NONE())", 8}, {"=NONE(1)&ABS()", api.CodeArg}, {"=IF(TRUE,1,NONE())", 1},
	})
}

// P12.2, OpNeg and OpPct: numbers and what is taken as one, halves on both sides of 0, texts, Faults.
func TestOfOne(t *testing.T) {
	e := New(funcs.New(), 8, nil)
	for _, c := range []struct {
		x        any
		neg, pct any
	}{
		{0, 0, 0}, {1, -1, 0.01}, {-1, 1, -0.01}, {2.5, -2.5, 0.025}, {true, -1, 0.01}, {false, 0, 0}, {nil, 0, 0},
		{parts(1), parts(-1), 0}, {parts(49), parts(-49), 0}, {parts(50), parts(-50), parts(1)}, {parts(-49), parts(49), 0}, {parts(-50), parts(50), parts(-1)}, {parts(149), parts(-149), parts(1)}, {parts(150), parts(-150), parts(2)}, {parts(-150), parts(150), parts(-2)}, {parts(250), parts(-250), parts(3)}, {parts(-149), parts(149), parts(-1)},
		{parts(math.MaxInt64), parts(-math.MaxInt64), parts(92233720368547758)}, {parts(-math.MaxInt64), parts(math.MaxInt64), parts(-92233720368547758)}, {parts(math.MaxInt64 - 7), parts(7 - math.MaxInt64), parts(92233720368547758)}, {parts(9223372036854775750), parts(-9223372036854775750), parts(92233720368547758)}, {parts(9223372036854775749), parts(-9223372036854775749), parts(92233720368547757)},
		{"", api.CodeType, api.CodeType}, {"x", api.CodeType, api.CodeType}, {"1", api.CodeType, api.CodeType}, {"TRUE", api.CodeType, api.CodeType},
	} {
		works(t, c.neg, e, column(c.x), cell(1, 1), op(api.OpNeg))
		works(t, c.pct, e, column(c.x), cell(1, 1), op(api.OpPct))
	}
	for c := api.CodeCycle; c <= api.CodeArg; c++ {
		works(t, c, e, column(c), cell(1, 1), op(api.OpNeg))
		works(t, c, e, column(c), cell(1, 1), op(api.OpPct))
	}
	checks(t, 8, nil, sample(), []check{{"=--A1", 2}, {"=-A1%", -0.02}, {"=A1%%", 0.0002}, {"=50%*A1", 1}, {"=-(A1=2)", -1}, {"=(-A7)%", 0.015}, {"=-#NUM!", api.CodeNum}, {"=#RANGE!%", api.CodeRange}, {`=""%`, api.CodeType}, {"=-TRUE", -1}, {"=TRUE%", 0.01}})
}

// P12.2, OpMul to OpSub: what is written down, of each kind in each place.
func TestOfTwo(t *testing.T) {
	e, most := New(funcs.New(), 8, nil), parts(math.MaxInt64)
	for _, c := range []struct {
		a, b               any
		mul, div, add, sub any
	}{
		{6, 4, 24, 1.5, 10, 2}, {-6, 4, -24, -1.5, -2, -10}, {1, 3, 3, 0.3333, 4, -2}, {2, 3, 6, 0.6667, 5, -1}, {-2, 3, -6, -0.6667, 1, -5}, {0, 5, 0, 0, 5, -5}, {5, 0, 0, api.CodeDiv, 5, 5}, {0, 0, 0, api.CodeDiv, 0, 0},
		{true, 4, 4, 0.25, 5, -3}, {4, true, 4, 4, 5, 3}, {false, 4, 0, 0, 4, -4}, {4, false, 0, api.CodeDiv, 4, 4}, {true, true, 1, 1, 2, 0}, {nil, 4, 0, 0, 4, -4}, {4, nil, 0, api.CodeDiv, 4, 4}, {nil, nil, 0, api.CodeDiv, 0, 0}, {true, nil, 0, api.CodeDiv, 1, 1},
		// Halves, on both sides of 0.
		{parts(1), 2, parts(2), parts(1), parts(20001), parts(-19999)}, {parts(-1), 2, parts(-2), parts(-1), parts(19999), parts(-20001)}, {parts(1), -2, parts(-2), parts(-1), parts(-19999), parts(20001)}, {parts(-1), -2, parts(2), parts(1), parts(-20001), parts(19999)},
		{parts(3), 2, parts(6), parts(2), parts(20003), parts(-19997)}, {parts(-3), 2, parts(-6), parts(-2), parts(19997), parts(-20003)}, {parts(1), 0.5, parts(1), parts(2), parts(5001), parts(-4999)}, {parts(-1), 0.5, parts(-1), parts(-2), parts(4999), parts(-5001)}, {parts(1), parts(4999), 0, parts(2), parts(5000), parts(-4998)}, {parts(1), parts(20001), parts(2), 0, parts(20002), parts(-20000)},
		// What may not be, and what just may.
		{most, parts(1), parts(922337203685478), api.CodeNum, api.CodeNum, parts(math.MaxInt64 - 1)}, {most, parts(-1), parts(-922337203685478), api.CodeNum, parts(math.MaxInt64 - 1), api.CodeNum}, {most, 1, most, most, api.CodeNum, parts(math.MaxInt64 - 10000)},
		{most, most, api.CodeNum, 1, api.CodeNum, 0}, {parts(-math.MaxInt64), most, api.CodeNum, -1, 0, api.CodeNum}, {parts(-math.MaxInt64), -1, most, most, api.CodeNum, parts(10000 - math.MaxInt64)}, {parts(math.MaxInt64 - 1), parts(1), parts(922337203685478), api.CodeNum, most, parts(math.MaxInt64 - 2)}, {parts(1 - math.MaxInt64), parts(1), parts(-922337203685478), api.CodeNum, parts(2 - math.MaxInt64), parts(-math.MaxInt64)},
		{parts(1 << 38), parts(1 << 38), parts(7555786372591432342), 1, parts(1 << 39), 0}, {parts(1 << 39), parts(1 << 38), api.CodeNum, 2, parts(3 << 38), parts(1 << 38)},
	} {
		s := column(c.a, c.b)
		for i, want := range []any{c.mul, c.div, c.add, c.sub} {
			works(t, want, e, s, cell(1, 1), cell(2, 1), op(api.OpMul+i))
		}
	}
	for n := api.OpMul; n <= api.OpSub; n++ {
		for _, s := range []grid{column("x", 1), column(1, "x"), column("1", "2"), column("", 1), column(1, ""), column(nil, "x"), column("x", nil), column(true, "TRUE"), column("2", true), column("x", 0), column(0, "x")} {
			works(t, api.CodeType, e, s, cell(1, 1), cell(2, 1), op(n))
		}
	}
	checks(t, 8, nil, sample(), []check{{"=1+2*3", 7}, {"=(1+2)*3", 9}, {"=10-4-3", 3}, {"=10-(4-3)", 9}, {"=8/4/2", 1}, {"=8/(4/2)", 4}, {"=A1*B3-A7", 7.5}, {"=2*-3", -6}, {"=1-A3", 1}, {"=A4+A4", 2}, {"=922337203685477.5807+0", most}, {"=922337203685477.5807+0.0001", api.CodeNum}, {"=-922337203685477.5807-0.0001", api.CodeNum}})
}

// P12.2, OpCat: each kind as a text, and how long the two may be together.
func TestCat(t *testing.T) {
	e := New(funcs.New(), 8, nil)
	for _, c := range []struct{ a, b, want any }{
		{"ab", "cd", "abcd"}, {"", "", ""}, {"", "x", "x"}, {"x", "", "x"}, {nil, nil, ""}, {nil, "x", "x"}, {"x", nil, "x"}, {1, 2, "12"}, {-1.5, true, "-1.5TRUE"}, {false, 0, "FALSE0"}, {0.0001, nil, "0.0001"}, {100, "%", "100%"}, {"\x00", "\xff", "\x00\xff"}, {"#DIV!", 1, "#DIV!1"},
		{"abcd", "efgh", "abcdefgh"}, {"abcdefgh", "", "abcdefgh"}, {"", "abcdefgh", "abcdefgh"}, {"abcdefgh", nil, "abcdefgh"}, {nil, 12345678, "12345678"}, {"abcd", "efghi", api.CodeLong}, {"abcde", "fghi", api.CodeLong}, {"abcdefghi", "", api.CodeLong}, {"", "abcdefghi", api.CodeLong}, {"abcdefghi", nil, api.CodeLong}, {nil, 123456789, api.CodeLong}, {12345, true, api.CodeLong}, {parts(math.MaxInt64), nil, api.CodeLong}, {1234.5, "ab", "1234.5ab"}, {1234.5, "abc", api.CodeLong},
		{strings.Repeat("a", 5000), strings.Repeat("b", 5000), api.CodeLong}, {"a", strings.Repeat("b", 5000), api.CodeLong}, {strings.Repeat("a", 5000), "b", api.CodeLong},
	} {
		works(t, c.want, e, column(c.a, c.b), cell(1, 1), cell(2, 1), op(api.OpCat))
	}
	checks(t, 8, nil, sample(), []check{{`="a"&"b"&"c"`, "abc"}, {`="a"&("b"&"c")`, "abc"}, {"=1&2+3", "15"}, {"=A2&A3&A1", "ab2"}, {`="abcd"&"efgh"&"i"`, api.CodeLong}, {`="i"&("abcd"&"efgh")`, api.CodeLong}, {`=("abcdefghi")&""`, api.CodeLong}, {"=1/3&1", "0.33331"}})
}

// P12.2, OpEq to OpGe: values of one tag and of unlike tags, Blank with what is nothing, written down with how the two stand to each other.
func TestCompared(t *testing.T) {
	e := New(funcs.New(), 8, nil)
	for _, c := range []struct {
		a, b  any
		order int
	}{
		{1, 2, -1}, {2, 2, 0}, {-1, 1, -1}, {0, -0.0001, 1}, {0.5, 0.5, 0}, {parts(math.MaxInt64), parts(math.MaxInt64 - 1), 1}, {parts(-math.MaxInt64), parts(math.MaxInt64), -1}, {parts(-math.MaxInt64), parts(-math.MaxInt64), 0},
		{"a", "b", -1}, {"a", "a", 0}, {"a", "A", 1}, {"a", "ab", -1}, {"", "", 0}, {"", "a", -1}, {"10", "9", -1}, {"\xff", "a", 1}, {"long ones are compared, too", "long ones are compared", 1}, {strings.Repeat("x", 2000), strings.Repeat("x", 2000), 0},
		{false, true, -1}, {true, true, 0}, {false, false, 0},
		{2, "1", -1}, {1, "1", -1}, {-1, "-1", -1}, {-1, "1", -1}, {0, "", -1}, {0, "0", -1}, {parts(math.MaxInt64), "", -1}, {1, true, -1}, {0, false, -1}, {5, false, -1}, {"TRUE", true, -1}, {"x", false, -1}, {"", false, -1}, {"zzz", true, -1},
		{nil, nil, 0}, {nil, 0, 0}, {nil, "", 0}, {nil, false, 0}, {nil, 1, -1}, {nil, -1, 1}, {nil, parts(1), -1}, {nil, "a", -1}, {nil, "\x00", -1}, {nil, true, -1},
	} {
		s, back := column(c.a, c.b), column(c.b, c.a)
		for i, is := range []bool{c.order == 0, c.order != 0, c.order < 0, c.order <= 0, c.order > 0, c.order >= 0} {
			works(t, is, e, s, cell(1, 1), cell(2, 1), op(api.OpEq+i))
			// Turned round: < is > then, <= is >=.
			works(t, is, e, back, cell(1, 1), cell(2, 1), op([]int{api.OpEq, api.OpNe, api.OpGt, api.OpGe, api.OpLt, api.OpLe}[i]))
		}
	}
	checks(t, 8, nil, sample(), []check{{"=1<2=TRUE", true}, {"=1<2=1", false}, {"=1+1=2", true}, {`="a"&"b"="ab"`, true}, {"=A1=2", true}, {"=A3=A9", true}, {"=A3=A5", true}, {"=A1>A2", false}, {`=A10=12`, false}, {`=A10="12"`, true}, {"=TRUE>99", true}, {"=(1=1)+1", 2}})
}
