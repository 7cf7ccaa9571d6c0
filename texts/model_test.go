package texts

import (
	"fmt"
	"math"
	"math/rand"
	"strings"
	"testing"

	"oriel/api"
	"oriel/dec"
	"oriel/value"
)

const (
	greatest = math.MaxInt64
	// greatestWhole is the greatest whole number.
	greatestWhole = 922337203685477
)

func parts(x int64) api.Value    { return api.Value{Tag: api.Number, Num: x} }
func whole(n int64) api.Value    { return parts(n * 10000) }
func text(s string) api.Value    { return api.Value{Tag: api.Text, Str: s} }
func truth(is bool) api.Value    { return api.Value{Tag: api.Bool, Is: is} }
func fault(c api.Code) api.Value { return api.Value{Tag: api.Fault, Code: c} }

// row are single arguments: texts, whole numbers, and values as they are.
func row(list ...any) []api.Arg {
	var args []api.Arg
	for _, x := range list {
		switch x := x.(type) {
		case string:
			args = append(args, api.Arg{Value: text(x)})
		case int:
			args = append(args, api.Arg{Value: whole(int64(x))})
		case bool:
			args = append(args, api.Arg{Value: truth(x)})
		case api.Code:
			args = append(args, api.Arg{Value: fault(x)})
		case api.Value:
			args = append(args, api.Arg{Value: x})
		case api.Arg:
			args = append(args, x)
		default:
			panic(fmt.Sprintf("no argument: %T", x))
		}
	}
	return args
}

// wanted is the value that stands for what a call is to answer.
func wanted(x any) api.Value { return row(x)[0].Value }

// brief is a thing, written out for who reads a failure: quoted, as texts have any bytes.
func brief(x any) string { return fmt.Sprintf("%.400q", fmt.Sprintf("%+v", x)) }

// ask is a call, and what it is to answer.
type ask struct {
	name string
	args []api.Arg
	want any
}

// checks holds calls against what is written down beside them, with so many bytes for a text.
func checks(t *testing.T, most int, asks []ask) {
	t.Helper()
	for _, a := range asks {
		calls(t, most, a.want, a.name, a.args...)
	}
}

// calls checks what a function answers.
func calls(t *testing.T, most int, want any, name string, args ...api.Arg) {
	t.Helper()
	if v := Call(name, args, most); v != wanted(want) {
		t.Errorf("%s(%s), %d bytes = %s; want %s", name, brief(args), most, brief(v), brief(want))
	}
}

// models checks that a function answers what the model does.
func models(t *testing.T, most int, name string, args []api.Arg) {
	t.Helper()
	if v, want := Call(name, args, most), model(name, args, most); v != want {
		t.Fatalf("%s(%s), %d bytes = %s; want %s", name, brief(args), most, brief(v), brief(want))
	}
}

// kind is what a function takes by the chapter's table: the least count, and for each place a text (s) or a number (n).
type kind struct {
	least  int
	places string
}

// rows are the chapter's table.
func rows() map[string]kind {
	return map[string]kind{
		"LEN": {1, "s"}, "LEFT": {1, "sn"}, "RIGHT": {1, "sn"}, "MID": {3, "snn"}, "UPPER": {1, "s"}, "LOWER": {1, "s"}, "TRIM": {1, "s"}, "REPT": {2, "sn"},
		"FIND": {2, "ssn"}, "SUBST": {3, "sss"}, "CONCAT": {1, "ssssssssssssssss"}, "ORD": {1, "s"}, "CHAR": {1, "n"}, "EXACT": {2, "ss"}, "REV": {1, "s"}, "NUM": {1, "s"},
	}
}

// few are the counts of arguments that are tried of a function: all, or the least, some and the most.
func (k kind) few() []int {
	if len(k.places) > 3 {
		return []int{k.least, 2, 3, len(k.places)}
	}
	var list []int
	for n := k.least; n <= len(k.places); n++ {
		list = append(list, n)
	}
	return list
}

// plain are arguments that a function takes without a fault, for so many of its places.
func (k kind) plain(n int) []api.Arg {
	var args []api.Arg
	for _, place := range k.places[:n] {
		if place == 's' {
			args = append(args, row("b")...)
		} else {
			args = append(args, row(1)...)
		}
	}
	return args
}

// model is what a call answers, by the chapter's words, byte by byte.
func model(name string, args []api.Arg, most int) api.Value {
	k, known := rows()[name]
	if most < 0 || most > 1024 || !known || len(args) < k.least || len(args) > len(k.places) {
		return fault(api.CodeArg)
	}
	for _, a := range args {
		if a.Many || !value.May(a.Value) || a.Rect != (api.Rect{}) || len(a.Entries) != 0 {
			return fault(api.CodeArg)
		}
	}
	for _, a := range args {
		if a.Value.Tag == api.Fault {
			return a.Value
		}
	}
	var s []string
	var n []int64
	for i, a := range args {
		if k.places[i] == 's' {
			shown, _ := value.AsText(a.Value)
			s = append(s, shown)
			continue
		}
		x, code := value.AsNumber(a.Value)
		if code == api.CodeNone && x%10000 != 0 {
			code = api.CodeArg
		}
		if code != api.CodeNone {
			return fault(code)
		}
		n = append(n, x/10000)
	}
	v := modelOf(name, s, n, most)
	if v.Tag == api.Text && len(v.Str) > most {
		return fault(api.CodeLong)
	}
	return v
}

// modelOf is what the table says; a text that is too long may be told in part, as long as that is too long, too.
func modelOf(name string, s []string, n []int64, most int) api.Value {
	switch name {
	case "LEN":
		return whole(int64(len([]byte(s[0]))))
	case "LEFT", "RIGHT", "MID":
		return modelPiece(name, s[0], n)
	case "UPPER":
		return text(modelCase(s[0], small, capital))
	case "LOWER":
		return text(modelCase(s[0], capital, small))
	case "TRIM":
		return text(modelTrim(s[0]))
	case "REPT":
		return modelRept(s[0], n[0], most)
	case "FIND":
		return modelFind(s[0], s[1], append(n, 1)[0])
	case "SUBST":
		return modelSubst(s[0], s[1], s[2], most)
	case "CONCAT":
		all := ""
		for _, piece := range s {
			all += piece
		}
		return text(all)
	case "ORD":
		for _, b := range []byte(s[0]) {
			return whole(int64(b))
		}
		return fault(api.CodeArg)
	case "CHAR":
		for b := range 256 {
			if int64(b) == n[0] {
				return text(string([]byte{byte(b)}))
			}
		}
		return fault(api.CodeArg)
	case "EXACT":
		return truth(strings.Compare(s[0], s[1]) == 0)
	case "REV":
		all := ""
		for _, b := range []byte(s[0]) {
			all = string([]byte{b}) + all
		}
		return text(all)
	}
	if x, is := dec.Parse(s[0]); is {
		return parts(x)
	}
	return fault(api.CodeType)
}

const (
	small   = "abcdefghijklmnopqrstuvwxyz"
	capital = "ABCDEFGHIJKLMNOPQRSTUVWXYZ"
)

// modelPiece is the bytes of a text whose places the table names.
func modelPiece(name, s string, n []int64) api.Value {
	from, many := int64(1), append(n, 1)[0]
	if name == "MID" {
		from, many = n[0], n[1]
	}
	if from < 1 || many < 0 {
		return fault(api.CodeArg)
	}
	var list []byte
	for i := range len(s) {
		place, last := int64(i+1), int64(len(s)-i)
		if name == "RIGHT" && last <= many || name != "RIGHT" && place >= from && place-from < many {
			list = append(list, s[i])
		}
	}
	return text(string(list))
}

func modelCase(s, from, to string) string {
	var list []byte
	for _, b := range []byte(s) {
		if at := strings.IndexByte(from, b); at >= 0 {
			b = to[at]
		}
		list = append(list, b)
	}
	return string(list)
}

func modelTrim(s string) string {
	var words []string
	for _, word := range strings.Split(s, " ") {
		if word != "" {
			words = append(words, word)
		}
	}
	return strings.Join(words, " ")
}

func modelRept(s string, n int64, most int) api.Value {
	if n < 0 {
		return fault(api.CodeArg)
	}
	all := ""
	for i := int64(0); i < n && s != "" && len(all) <= most; i++ {
		all += s
	}
	return text(all)
}

func modelFind(t, s string, from int64) api.Value {
	if from < 1 {
		return fault(api.CodeArg)
	}
	for at := 0; at <= len(s); at++ {
		if int64(at+1) >= from && at+len(t) <= len(s) && s[at:at+len(t)] == t {
			return whole(int64(at + 1))
		}
	}
	return fault(api.CodeMiss)
}

func modelSubst(s, t, u string, most int) api.Value {
	if t == "" {
		return fault(api.CodeArg)
	}
	all := ""
	for s != "" && len(all) <= most {
		if len(s) >= len(t) && s[:len(t)] == t {
			all, s = all+u, s[len(t):]
		} else {
			all, s = all+s[:1], s[1:]
		}
	}
	return text(all)
}

// shortTexts are all texts of at most so many bytes of a set.
func shortTexts(set string, most int) []string {
	list, last := []string{""}, []string{""}
	for range most {
		var next []string
		for _, s := range last {
			for _, b := range []byte(set) {
				next = append(next, s+string([]byte{b}))
			}
		}
		list, last = append(list, next...), next
	}
	return list
}

// randomText is a text of a few bytes out of a small set, or of any.
func randomText(rnd *rand.Rand, most int) string {
	sets := []string{"ab", "a ", "aAzZ@[`{", "01.-", "a\x00\x80\xff", "\xc3\xa4e "}
	set := sets[rnd.Intn(len(sets))]
	list := make([]byte, rnd.Intn(most+1))
	for i := range list {
		list[i] = set[rnd.Intn(len(set))]
	}
	return string(list)
}

// kinds are single arguments that may be, of each kind.
func kinds() []api.Arg {
	list := row("", "a", "b", "aba", " a  b ", "1", "-1.5", "0.5", "TRUE", "#DIV!", "\xff\x00", "abcdefghi", api.Value{}, true, false, 0, 1, 2, -1, 65, 256, greatestWhole, -greatestWhole)
	list = append(list, row(parts(5000), parts(-1), parts(greatest), parts(-greatest))...)
	for c := api.CodeCycle; c <= api.CodeArg; c++ {
		list = append(list, row(c)...)
	}
	return append(list, api.Arg{Value: text("a"), Entries: []api.Entry{}})
}

// wrongValues are values that may not be: each tag with each of the fields, and the numbers and codes that no value has.
func wrongValues() []api.Value {
	list := []api.Value{parts(math.MinInt64), fault(0), fault(9), fault(-1), fault(math.MaxInt), {Tag: math.MaxInt}, {Tag: math.MinInt}}
	for tag := api.Blank - 1; tag <= api.Fault+1; tag++ {
		for fields := range 16 {
			v := api.Value{Tag: tag, Is: fields&1 != 0}
			if fields&2 != 0 {
				v.Num = 10000
			}
			if fields&4 != 0 {
				v.Str = "x"
			}
			if fields&8 != 0 {
				v.Code = api.CodeDiv
			}
			if !value.May(v) {
				list = append(list, v)
			}
		}
	}
	return list
}

// wrongArgs are arguments that may not be here: of values that may not be, of more than a value, and rectangles, right and wrong ones.
func wrongArgs() []api.Arg {
	var list []api.Arg
	for _, v := range wrongValues() {
		list = append(list, api.Arg{Value: v})
	}
	at := func(row, col int, v api.Value) api.Entry {
		return api.Entry{Cell: api.Cell{Row: row, Col: col}, Value: v}
	}
	b, all := text("b"), api.Rect{Top: 1, Left: 1, Bottom: 2, Right: 2}
	for _, v := range []api.Value{{}, b, whole(1), truth(true), fault(api.CodeDiv)} {
		list = append(list, api.Arg{Value: v, Rect: all}, api.Arg{Value: v, Rect: api.Rect{Bottom: -1}}, api.Arg{Value: v, Entries: []api.Entry{{}}}, api.Arg{Value: v, Entries: []api.Entry{at(1, 1, b)}})
		list = append(list, api.Arg{Many: true, Value: v}, api.Arg{Many: true, Value: v, Rect: all}, api.Arg{Many: true, Rect: all, Entries: []api.Entry{at(1, 2, v)}})
	}
	for _, r := range []api.Rect{{Top: 1, Left: 1, Bottom: 1, Right: 1}, {Top: 1, Left: 1, Bottom: 4096, Right: 256}, {Left: 1, Bottom: 1, Right: 1}, {Top: 2, Left: 1, Bottom: 1, Right: 1}, {Top: 1, Left: 2, Bottom: 1, Right: 1}, {Top: 1, Left: 1, Bottom: 4097, Right: 1}, {Top: 1, Left: 1, Bottom: 1, Right: 257}} {
		list = append(list, api.Arg{Many: true, Rect: r})
	}
	for _, entries := range [][]api.Entry{{at(1, 1, b), at(2, 2, b)}, {at(2, 1, b), at(1, 2, b)}, {at(1, 1, b), at(1, 1, b)}, {at(3, 1, b)}, {at(0, 0, b)}, {at(1, 1, parts(math.MinInt64))}} {
		list = append(list, api.Arg{Many: true, Rect: all, Entries: entries})
	}
	return list
}
