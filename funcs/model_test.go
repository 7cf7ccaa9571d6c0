package funcs

import (
	"fmt"
	"math"
	"slices"
	"strings"
	"testing"

	"oriel/api"
)

func parts(x int64) api.Value    { return api.Value{Tag: api.Number, Num: x} }
func wholes(n int64) api.Value   { return parts(n * 10000) }
func text(s string) api.Value    { return api.Value{Tag: api.Text, Str: s} }
func truth(is bool) api.Value    { return api.Value{Tag: api.Bool, Is: is} }
func fault(c api.Code) api.Value { return api.Value{Tag: api.Fault, Code: c} }

// wanted is the value that stands for a thing: whole numbers, texts, truths, codes, nil for Blank, and values as they are.
func wanted(x any) api.Value {
	switch x := x.(type) {
	case nil:
		return api.Value{}
	case int:
		return wholes(int64(x))
	case string:
		return text(x)
	case bool:
		return truth(x)
	case api.Code:
		return fault(x)
	case api.Value:
		return x
	}
	panic(fmt.Sprintf("no value: %T", x))
}

// row are arguments: single ones of values, and arguments as they are.
func row(list ...any) []api.Arg {
	var args []api.Arg
	for _, x := range list {
		if a, is := x.(api.Arg); is {
			args = append(args, a)
		} else {
			args = append(args, api.Arg{Value: wanted(x)})
		}
	}
	return args
}

// box is the rectangle from A1 on downwards, of so many cells as there are values.
func box(list ...any) api.Arg {
	a := api.Arg{Many: true, Rect: api.Rect{Top: 1, Left: 1, Bottom: len(list), Right: 1}}
	for i, x := range list {
		a.Entries = append(a.Entries, api.Entry{Cell: api.Cell{Row: i + 1, Col: 1}, Value: wanted(x)})
	}
	return a
}

// brief is a thing, written out for who reads a failure: quoted, as texts have any bytes.
func brief(x any) string { return fmt.Sprintf("%.600q", fmt.Sprintf("%+v", x)) }

// ask is a call, and what it is to answer.
type ask struct {
	name string
	args []api.Arg
	want any
}

// checks holds calls against what is written down beside them.
func checks(t *testing.T, asks []ask) {
	t.Helper()
	for _, a := range asks {
		calls(t, a.want, a.name, a.args...)
	}
}

// calls checks what a function answers.
func calls(t *testing.T, want any, name string, args ...api.Arg) {
	t.Helper()
	if v := New().Call(name, args, 8); v != wanted(want) {
		t.Errorf("%.20s(%s) = %s; want %s", name, brief(args), brief(v), brief(wanted(want)))
	}
}

// models checks that a table answers what the model does.
func models(t *testing.T, table *Table, name string, args []api.Arg) {
	t.Helper()
	if v, want := table.Call(name, args, 8), model(name, args); v != want {
		t.Fatalf("%s(%s) = %s; want %s", name, brief(args), brief(v), brief(want))
	}
}

// counts are how few and how many arguments each function of the chapter's table takes.
func counts() map[string][2]int {
	return map[string][2]int{
		"IF": {2, 3}, "AND": {1, 16}, "OR": {1, 16}, "XOR": {1, 16}, "NOT": {1, 1}, "IFERR": {2, 2},
		"ISERR": {1, 1}, "ISBLANK": {1, 1}, "ISNUM": {1, 1}, "ISTEXT": {1, 1}, "ISBOOL": {1, 1},
		"TYPE": {1, 1}, "ERRNO": {1, 1}, "ERR": {1, 1}, "CHOOSE": {2, 16}, "ASK": {1, 1},
	}
}

// ownNames are those of the chapter's table.
func ownNames() []string {
	return strings.Fields("IF AND OR XOR NOT IFERR ISERR ISBLANK ISNUM ISTEXT ISBOOL TYPE ERRNO ERR CHOOSE ASK")
}

// allNames are the 66 of all layers, as chapters 8 to 11 list them, put in order.
func allNames() []string {
	return strings.Fields("ABS AND ASK AVG BLANKS CEIL CHAR CHOOSE CLAMP COLS CONCAT COUNT COUNTA COUNTIF ERR ERRNO EXACT FACT FIND FLOOR GCD IF IFERR INDEX INT ISBLANK ISBOOL ISERR ISNUM ISTEXT JOIN LARGE LCM LEFT LEN LOOKUP LOWER MATCH MAX MEDIAN MID MIN MOD NOT NUM ODD OR ORD POWER PROD QUOT REPT REV RIGHT ROUND ROWS SIGN SQRT SUBST SUM SUMIF TRIM TRUNC TYPE UPPER XOR")
}

// otherNames are none of them.
func otherNames() []string {
	list := []string{"", " ", "NONE", "none", "TRUE", "FALSE", "IFS", "I", "ISNUMBER", "IF ", " IF", "IF\x00", "\x00", "\xff", "ÍF", "0", "IF SUM", "ABS SIGN", "AND,OR", "If", "Sum", "\tIF", "IF\n", "AVERAGE", strings.Repeat("IF", 1<<16)}
	for _, name := range allNames() {
		for _, other := range []string{strings.ToLower(name), name + name, name + "1", name + " ", name[1:], name[:len(name)-1]} {
			if !slices.Contains(allNames(), other) {
				list = append(list, other)
			}
		}
	}
	return list
}

// values are such as may be, of every kind.
func values() []api.Value {
	list := []api.Value{{}, truth(true), truth(false)}
	for _, x := range []int64{0, 1, -1, 5000, 9999, 10000, 10001, 15000, -10000, 20000, 30000, 80000, 90000, 160000, 170000, math.MaxInt64, -math.MaxInt64, 922337203685477 * 10000, -922337203685477 * 10000} {
		list = append(list, parts(x))
	}
	for _, s := range []string{"", "x", "1", "0", "TRUE", "FALSE", "#DIV!", "\x00\xff", "longer than eight bytes"} {
		list = append(list, text(s))
	}
	for c := api.CodeCycle; c <= api.CodeArg; c++ {
		list = append(list, fault(c))
	}
	return list
}

// fewValues are one or two of each kind.
func fewValues() []api.Value {
	return []api.Value{{}, truth(true), truth(false), parts(0), parts(10000), parts(20000), parts(5000), parts(-10000), text(""), text("x"), fault(api.CodeCycle), fault(api.CodeDiv)}
}

// wrongArgs are arguments that may not be, of each kind.
func wrongArgs() []api.Arg {
	one, all, at := wholes(1), api.Rect{Top: 1, Left: 1, Bottom: 2, Right: 2}, api.Cell{Row: 1, Col: 1}
	list := []api.Arg{
		{Value: parts(math.MinInt64)}, {Value: fault(0)}, {Value: fault(9)}, {Value: fault(-1)}, {Value: fault(math.MaxInt)}, {Value: fault(math.MinInt)},
		{Value: api.Value{Tag: 5}}, {Value: api.Value{Tag: -1}}, {Value: api.Value{Tag: 5, Code: 3}}, {Value: api.Value{Tag: math.MaxInt, Num: 1}}, {Value: api.Value{Tag: math.MinInt}},
		{Value: api.Value{Num: 1}}, {Value: api.Value{Str: "x"}}, {Value: api.Value{Is: true}}, {Value: api.Value{Code: 3}},
		{Value: api.Value{Tag: api.Number, Str: "x"}}, {Value: api.Value{Tag: api.Number, Num: 10000, Is: true}}, {Value: api.Value{Tag: api.Number, Num: 10000, Code: 1}},
		{Value: api.Value{Tag: api.Text, Num: 1}}, {Value: api.Value{Tag: api.Text, Str: "x", Is: true}}, {Value: api.Value{Tag: api.Text, Code: 1}},
		{Value: api.Value{Tag: api.Bool, Num: 1}}, {Value: api.Value{Tag: api.Bool, Is: true, Str: "x"}}, {Value: api.Value{Tag: api.Bool, Code: 1}},
		{Value: api.Value{Tag: api.Fault, Code: 3, Num: 1}}, {Value: api.Value{Tag: api.Fault, Code: 3, Str: "x"}}, {Value: api.Value{Tag: api.Fault, Code: 3, Is: true}},
	}
	for _, v := range []api.Value{one, {}, fault(api.CodeDiv), truth(true), text("x")} {
		list = append(list, api.Arg{Value: v, Rect: all}, api.Arg{Value: v, Rect: api.Rect{Right: 1}}, api.Arg{Value: v, Rect: api.Rect{Top: -1}}, api.Arg{Value: v, Entries: []api.Entry{{}}}, api.Arg{Value: v, Entries: []api.Entry{{Cell: at, Value: one}}}, api.Arg{Value: v, Rect: all, Entries: []api.Entry{{Cell: at, Value: one}}})
	}
	return append(list,
		api.Arg{Many: true}, api.Arg{Many: true, Value: one}, api.Arg{Many: true, Value: one, Rect: all}, api.Arg{Many: true, Value: fault(api.CodeDiv), Rect: all}, api.Arg{Many: true, Rect: api.Rect{Top: 2, Left: 1, Bottom: 1, Right: 1}},
		api.Arg{Many: true, Rect: api.Rect{Top: 0, Left: 1, Bottom: 1, Right: 1}}, api.Arg{Many: true, Rect: api.Rect{Top: 1, Left: 1, Bottom: 4097, Right: 1}}, api.Arg{Many: true, Rect: api.Rect{Top: 1, Left: 1, Bottom: 1, Right: 257}},
		api.Arg{Many: true, Rect: all, Entries: []api.Entry{{Cell: api.Cell{Row: 3, Col: 1}, Value: one}}}, api.Arg{Many: true, Rect: all, Entries: []api.Entry{{Cell: at, Value: one}, {Cell: at, Value: one}}},
		api.Arg{Many: true, Rect: all, Entries: []api.Entry{{Cell: api.Cell{Row: 2, Col: 1}, Value: one}, {Cell: at, Value: one}}}, api.Arg{Many: true, Rect: all, Entries: []api.Entry{{Cell: at, Value: fault(9)}}},
	)
}

// boxes are rectangles that may be: empty ones, with a number, a truth, a Fault, all of the grid.
func boxes() []api.Arg {
	return []api.Arg{
		box(1), box(true, false), box(api.CodeDiv), box("x", 1, nil), box(api.CodeCycle, 2),
		{Many: true, Rect: api.Rect{Top: 1, Left: 1, Bottom: 2, Right: 1}}, {Many: true, Rect: api.Rect{Top: 1, Left: 1, Bottom: 4096, Right: 256}},
	}
}

// model is what a function of the chapter's table answers, by its words; the bound of texts is not looked at.
func model(name string, args []api.Arg) api.Value {
	count, known := counts()[name]
	if !known || len(args) < count[0] || len(args) > count[1] {
		return fault(api.CodeArg)
	}
	for _, a := range args {
		if a.Many || a.Rect != (api.Rect{}) || len(a.Entries) > 0 || !modelMay(a.Value) {
			return fault(api.CodeArg)
		}
	}
	x := args[0].Value
	switch name {
	case "IF", "NOT", "ERR", "CHOOSE":
		if x.Tag == api.Fault {
			return x
		}
		return modelTaken(name, args)
	case "AND", "OR", "XOR":
		return modelTruths(name, args)
	case "IFERR":
		if x.Tag == api.Fault {
			return args[1].Value
		}
		return x
	case "TYPE":
		return wholes(map[api.Tag]int64{api.Blank: 0, api.Number: 1, api.Text: 2, api.Bool: 3, api.Fault: 4}[x.Tag])
	case "ERRNO":
		if x.Tag == api.Fault {
			return wholes(int64(x.Code))
		}
		return fault(api.CodeArg)
	case "ASK":
		return fault(api.CodeArg)
	}
	tag := map[string]api.Tag{"ISERR": api.Fault, "ISBLANK": api.Blank, "ISNUM": api.Number, "ISTEXT": api.Text, "ISBOOL": api.Bool}[name]
	return truth(x.Tag == tag)
}

// modelMay tells whether a value may be, by chapter 2's words.
func modelMay(v api.Value) bool {
	switch v.Tag {
	case api.Blank:
		return v.Num == 0 && v.Str == "" && !v.Is && v.Code == 0
	case api.Number:
		return v.Str == "" && !v.Is && v.Code == 0 && v.Num != math.MinInt64
	case api.Text:
		return v.Num == 0 && !v.Is && v.Code == 0
	case api.Bool:
		return v.Num == 0 && v.Str == "" && v.Code == 0
	case api.Fault:
		return v.Num == 0 && v.Str == "" && !v.Is && v.Code >= 1 && v.Code <= 8
	}
	return false
}

// modelTaken is what a function answers whose first argument is no Fault, and is taken for a truth or a whole number.
func modelTaken(name string, args []api.Arg) api.Value {
	x := args[0].Value
	if x.Tag == api.Text {
		return fault(api.CodeType)
	}
	is, n := x.Tag == api.Bool && x.Is || x.Tag == api.Number && x.Num != 0, x.Num
	if x.Tag == api.Bool && x.Is {
		n = 10000
	}
	switch {
	case name == "NOT":
		return truth(!is)
	case name == "IF" && is:
		return args[1].Value
	case name == "IF" && len(args) == 3:
		return args[2].Value
	case name == "IF":
		return truth(false)
	case n%10000 != 0:
		return fault(api.CodeArg)
	case name == "ERR" && n >= 20000 && n <= 80000:
		return fault(api.Code(n / 10000))
	case name == "ERR":
		return fault(api.CodeArg)
	}
	for i, a := range args[1:] {
		if n == int64(i+1)*10000 {
			return a.Value
		}
	}
	return fault(api.CodeRange)
}

// modelTruths is what AND, OR and XOR answer.
func modelTruths(name string, args []api.Arg) api.Value {
	for _, a := range args {
		if a.Value.Tag == api.Fault {
			return a.Value
		}
	}
	and, or, xor := true, false, false
	for _, a := range args {
		if a.Value.Tag == api.Text {
			return fault(api.CodeType)
		}
		is := a.Value.Is || a.Value.Num != 0
		and, or, xor = and && is, or || is, xor != is
	}
	switch name {
	case "AND":
		return truth(and)
	case "OR":
		return truth(or)
	}
	return truth(xor)
}
