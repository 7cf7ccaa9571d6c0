package aggs

import (
	"fmt"
	"math"
	"math/big"
	"math/rand"
	"testing"

	"oriel/addr"
	"oriel/api"
	"oriel/value"
)

const (
	highest = math.MaxInt64
	// highestWhole is the greatest whole number.
	highestWhole = 922337203685477
	allCells     = "A1:IV4096"
)

func parts(x int64) api.Value    { return api.Value{Tag: api.Number, Num: x} }
func wholes(n int64) api.Value   { return parts(n * 10000) }
func text(s string) api.Value    { return api.Value{Tag: api.Text, Str: s} }
func truth(is bool) api.Value    { return api.Value{Tag: api.Bool, Is: is} }
func fault(c api.Code) api.Value { return api.Value{Tag: api.Fault, Code: c} }

// wanted is the value that stands for a thing: texts, whole numbers, truths, codes, and values as they are.
func wanted(x any) api.Value {
	switch x := x.(type) {
	case string:
		return text(x)
	case int:
		return wholes(int64(x))
	case bool:
		return truth(x)
	case api.Code:
		return fault(x)
	case api.Value:
		return x
	}
	panic(fmt.Sprintf("no value: %T", x))
}

// row are arguments: single ones of values, and arguments as they are.
func row(list ...any) []api.Arg {
	var args []api.Arg
	for _, x := range list {
		if a, is := x.(api.Arg); is {
			args = append(args, a)
		} else {
			args = append(args, api.Arg{Value: wanted(x)})
		}
	}
	return args
}

// box is a rectangle by its name, with values from its first cell on, row by row; a cell for which nil stands has no entry.
func box(name string, list ...any) api.Arg {
	r, is := addr.ParseRect(name)
	if !is || len(list) > rows(r)*cols(r) {
		panic("no rectangle: " + name)
	}
	a := api.Arg{Many: true, Rect: r}
	for i, x := range list {
		if x != nil {
			at := api.Cell{Row: r.Top + i/cols(r), Col: r.Left + i%cols(r)}
			a.Entries = append(a.Entries, api.Entry{Cell: at, Value: wanted(x)})
		}
	}
	return a
}

// brief is a thing, written out for who reads a failure: quoted, as texts have any bytes.
func brief(x any) string { return fmt.Sprintf("%.600q", fmt.Sprintf("%+v", x)) }

// shown are arguments, written out for who reads a failure; of a great one only the first entries.
func shown(args []api.Arg) string {
	var list []api.Arg
	for _, a := range args {
		a.Entries = a.Entries[:min(len(a.Entries), 12)]
		list = append(list, a)
	}
	return brief(list)
}

// ask is a call, and what it is to answer.
type ask struct {
	name string
	args []api.Arg
	want any
}

// checks holds calls against what is written down beside them, with so many bytes for a text.
func checks(t *testing.T, most int, asks []ask) {
	t.Helper()
	for _, a := range asks {
		calls(t, most, a.want, a.name, a.args...)
	}
}

// calls checks what a function answers.
func calls(t *testing.T, most int, want any, name string, args ...api.Arg) {
	t.Helper()
	if v := Call(name, args, most); v != wanted(want) {
		t.Errorf("%s(%s), %d bytes = %s; want %s", name, shown(args), most, brief(v), brief(want))
	}
}

// models checks that a function answers what the model does.
func models(t *testing.T, most int, name string, args []api.Arg) {
	t.Helper()
	if v, want := Call(name, args, most), model(name, args, most); v != want {
		t.Fatalf("%s(%s), %d bytes = %s; want %s", name, shown(args), most, brief(v), brief(want))
	}
}

// form is what a function takes by the chapter's table: the letter of each place, with n for i, j and k.
type form struct {
	places string
	least  int
}

// forms are the chapter's table.
func forms() map[string]form {
	many := "xxxxxxxxxxxxxxxx"
	return map[string]form{
		"SUM": {many, 1}, "PROD": {many, 1}, "MIN": {many, 1}, "MAX": {many, 1}, "AVG": {many, 1}, "MEDIAN": {many, 1}, "COUNT": {many, 1}, "COUNTA": {many, 1},
		"BLANKS": {"r", 1}, "COUNTIF": {"rv", 2}, "SUMIF": {"rvr", 3}, "MATCH": {"vr", 2}, "LOOKUP": {"vrr", 3}, "INDEX": {"rnn", 3}, "LARGE": {"rn", 2},
		"JOIN": {"v" + many[1:], 2}, "ROWS": {"r", 1}, "COLS": {"r", 1},
	}
}

// takes tells whether it takes such arguments.
func (f form) takes(rects []bool) bool {
	if len(rects) < f.least || len(rects) > len(f.places) {
		return false
	}
	for i, is := range rects {
		if is && (f.places[i] == 'v' || f.places[i] == 'n') || !is && f.places[i] == 'r' {
			return false
		}
	}
	return true
}

// few are the counts of arguments that are tried of a function: all, or the least, some and the most.
func (f form) few() []int {
	if len(f.places) > 3 {
		return []int{f.least, 3, len(f.places)}
	}
	return []int{f.least}
}

// plain are arguments that a function takes without a fault, for so many of its places.
func (f form) plain(n int) []api.Arg {
	var args []api.Arg
	for i, place := range f.places[:n] {
		if place == 'r' || place == 'x' && i%2 == 0 {
			args = append(args, box("B2:B4", 1, 2, "x"))
		} else {
			args = append(args, row(1)...)
		}
	}
	return args
}

// model is what a call answers, by the chapter's words, cell by cell, with numbers of any size.
func model(name string, args []api.Arg, most int) api.Value {
	f, known := forms()[name]
	if most < 0 || most > 1024 || !known {
		return fault(api.CodeArg)
	}
	var rects []bool
	right := true
	for _, a := range args {
		rects = append(rects, a.Many)
		right = right && modelMay(a)
	}
	if !right || !f.takes(rects) {
		return fault(api.CodeArg)
	}
	for i := range args {
		if !rects[i] && args[i].Value.Tag == api.Fault {
			return args[i].Value
		}
	}
	var n []int64
	for i, a := range args {
		if f.places[i] != 'n' {
			continue
		}
		x, code := value.AsNumber(a.Value)
		if code == api.CodeNone && x%10000 != 0 {
			code = api.CodeArg
		}
		if code != api.CodeNone {
			return fault(code)
		}
		n = append(n, x/10000)
	}
	return modelOf(name, args, n, most)
}

// modelMay tells whether an argument may be, by chapter 8's words.
func modelMay(a api.Arg) bool {
	if !a.Many {
		return value.May(a.Value) && a.Rect == api.Rect{} && len(a.Entries) == 0
	}
	r := a.Rect
	if a.Value != (api.Value{}) || r.Top < 1 || r.Left < 1 || r.Top > r.Bottom || r.Left > r.Right || r.Bottom > 4096 || r.Right > 256 {
		return false
	}
	last := -1
	for _, e := range a.Entries {
		if e.Cell.Row < r.Top || e.Cell.Row > r.Bottom || e.Cell.Col < r.Left || e.Cell.Col > r.Right || !value.May(e.Value) {
			return false
		}
		number := e.Cell.Row*1000 + e.Cell.Col
		if number <= last {
			return false
		}
		last = number
	}
	return true
}

// modelOf is what the table says.
func modelOf(name string, args []api.Arg, n []int64, most int) api.Value {
	switch name {
	case "COUNT", "COUNTA", "SUM", "PROD", "MIN", "MAX", "AVG", "MEDIAN":
		return modelItems(name, modelList(args))
	case "BLANKS":
		return modelCells(args[0], api.Value{})
	case "COUNTIF":
		return modelCells(args[0], args[1].Value)
	case "SUMIF":
		return modelSumif(args[0], args[1].Value, args[2])
	case "MATCH":
		return modelLine(args[0].Value, args[1], nil)
	case "LOOKUP":
		return modelLine(args[0].Value, args[1], &args[2])
	case "INDEX":
		height, width := modelSize(args[0])
		if n[0] < 1 || n[0] > int64(height) || n[1] < 1 || n[1] > int64(width) {
			return fault(api.CodeRange)
		}
		return modelAt(args[0], int(n[0]), int(n[1]))
	case "LARGE":
		return modelLarge(modelList(args[:1]), n[0])
	case "JOIN":
		between, _ := value.AsText(args[0].Value)
		return modelJoin(between, modelList(args[1:]), most)
	case "ROWS":
		height, _ := modelSize(args[0])
		return wholes(int64(height))
	}
	_, width := modelSize(args[0])
	return wholes(int64(width))
}

// modelList are the items.
func modelList(args []api.Arg) []api.Value {
	var list []api.Value
	for _, a := range args {
		if !a.Many {
			list = append(list, a.Value)
		}
		for _, e := range a.Entries {
			list = append(list, e.Value)
		}
	}
	return list
}

func modelSize(a api.Arg) (height, width int) {
	for i := a.Rect.Top; i <= a.Rect.Bottom; i++ {
		height++
	}
	for i := a.Rect.Left; i <= a.Rect.Right; i++ {
		width++
	}
	return height, width
}

// modelAt is what the cell in a row and a column of a rectangle has.
func modelAt(a api.Arg, i, j int) api.Value {
	for _, e := range a.Entries {
		if e.Cell.Row-a.Rect.Top == i-1 && e.Cell.Col-a.Rect.Left == j-1 {
			return e.Value
		}
	}
	return api.Value{}
}

func modelCells(a api.Arg, v api.Value) api.Value {
	height, width := modelSize(a)
	n := int64(0)
	for i := 1; i <= height; i++ {
		for j := 1; j <= width; j++ {
			if modelAt(a, i, j) == v {
				n++
			}
		}
	}
	return wholes(n)
}

func modelSumif(where api.Arg, v api.Value, of api.Arg) api.Value {
	height, width := modelSize(where)
	if h, w := modelSize(of); h != height || w != width {
		return fault(api.CodeArg)
	}
	var list []api.Value
	for i := 1; i <= height; i++ {
		for j := 1; j <= width; j++ {
			if modelAt(where, i, j) == v {
				list = append(list, modelAt(of, i, j))
			}
		}
	}
	return modelItems("SUM", list)
}

// modelLine is a place of a line, or, if there is another one, what it has there.
func modelLine(v api.Value, line api.Arg, other *api.Arg) api.Value {
	height, width := modelSize(line)
	if height != 1 && width != 1 {
		return fault(api.CodeArg)
	}
	if other != nil {
		if h, w := modelSize(*other); h != height || w != width {
			return fault(api.CodeArg)
		}
	}
	for i := 1; i <= height; i++ {
		for j := 1; j <= width; j++ {
			if modelAt(line, i, j) != v {
				continue
			}
			if other != nil {
				return modelAt(*other, i, j)
			}
			return wholes(int64(i * j))
		}
	}
	return fault(api.CodeMiss)
}

// modelSorted are the numbers among the items, from the least on; or the first fault.
func modelSorted(list []api.Value) ([]int64, api.Code) {
	var sorted []int64
	for _, v := range list {
		if v.Tag == api.Fault {
			return nil, v.Code
		}
		if v.Tag != api.Number {
			continue
		}
		sorted = append(sorted, v.Num)
		for i := len(sorted) - 1; i > 0 && sorted[i] < sorted[i-1]; i-- {
			sorted[i], sorted[i-1] = sorted[i-1], sorted[i]
		}
	}
	return sorted, api.CodeNone
}

func modelLarge(list []api.Value, k int64) api.Value {
	sorted, code := modelSorted(list)
	if code != api.CodeNone {
		return fault(code)
	}
	if k < 1 || k > int64(len(sorted)) {
		return fault(api.CodeRange)
	}
	return parts(sorted[int64(len(sorted))-k])
}

func modelJoin(between string, list []api.Value, most int) api.Value {
	all, ahead := "", ""
	for _, v := range list {
		if v.Tag == api.Fault {
			return v
		}
	}
	for _, v := range list {
		if piece, _ := value.AsText(v); v.Tag != api.Blank {
			all, ahead = all+ahead+piece, between
		}
		if len(all) > most {
			return fault(api.CodeLong)
		}
	}
	return text(all)
}

// modelItems is what a function of items answers.
func modelItems(name string, list []api.Value) api.Value {
	some, numbers := int64(0), int64(0)
	for _, v := range list {
		if v.Tag != api.Blank {
			some++
		}
		if v.Tag == api.Number {
			numbers++
		}
	}
	switch name {
	case "COUNT":
		return wholes(numbers)
	case "COUNTA":
		return wholes(some)
	}
	sorted, code := modelSorted(list)
	if code != api.CodeNone {
		return fault(code)
	}
	if name == "SUM" {
		return modelRounded(modelSum(sorted), 1)
	}
	if name == "PROD" {
		return modelProduct(list)
	}
	if numbers == 0 {
		return fault(api.CodeMiss)
	}
	switch name {
	case "MIN":
		return parts(sorted[0])
	case "MAX":
		return parts(sorted[numbers-1])
	case "AVG":
		return modelRounded(modelSum(sorted), numbers)
	}
	if numbers%2 == 1 {
		return parts(sorted[(numbers-1)/2])
	}
	return modelRounded(modelSum(sorted[numbers/2-1:numbers/2+1]), 2)
}

func modelSum(list []int64) *big.Int {
	all := new(big.Int)
	for _, x := range list {
		all.Add(all, big.NewInt(x))
	}
	return all
}

func modelProduct(list []api.Value) api.Value {
	all := big.NewInt(10000)
	for _, v := range list {
		if v.Tag != api.Number {
			continue
		}
		next := modelRounded(all.Mul(all, big.NewInt(v.Num)), 10000)
		if next.Tag == api.Fault {
			return next
		}
		all = big.NewInt(next.Num)
	}
	return parts(all.Int64())
}

// modelRounded is a quotient, rounded as chapter 1 says: half of the divisor more, then what is behind the whole left out.
func modelRounded(x *big.Int, by int64) api.Value {
	size := new(big.Int).Abs(x)
	size.Mul(size, big.NewInt(2)).Add(size, big.NewInt(by)).Quo(size, big.NewInt(2*by))
	if size.Cmp(big.NewInt(highest)) > 0 {
		return fault(api.CodeNum)
	}
	if x.Sign() < 0 {
		return parts(-size.Int64())
	}
	return parts(size.Int64())
}

// values are such that may be, of each kind, among them those that could be taken for one another.
func values() []any {
	return []any{
		api.Value{}, 0, 1, 2, -1, 9, parts(1), parts(-1), parts(5000), parts(15000), parts(highest), parts(-highest), parts(highest - 1), highestWhole, -highestWhole,
		"", "x", "1", "TRUE", "abc", "\xff\x00", "#DIV!", true, false, api.CodeDiv, api.CodeMiss, api.CodeCycle, api.CodeArg,
	}
}

// boxes are rectangles that may be, of many kinds.
func boxes() []api.Arg {
	one, gap := api.Value{}, any(nil)
	return []api.Arg{
		box("A1:A1"), box("A1:A1", 1), box("IV4096:IV4096", one), box("B2:B2", api.CodeDiv), box("C3:C3", "x"),
		box("A1:C1"), box("A1:C1", 1, 2, 3), box("B9:D9", "x", gap, 1), box("A1:A3"), box("A1:A3", 2, "x", one), box("IV4094:IV4096", gap, gap, 1), box("A1:A3", 1, api.CodeNum, api.CodeDiv),
		box("A1:B2"), box("A1:B2", 1, 2, 3, 4), box("C2:D3", gap, "x", true, one), box("IU4095:IV4096", 1, 1, 2, gap), box("A2:B3", parts(highest), parts(highest), parts(-highest), 1),
		box("A1:C2", 1, "x", api.CodeMiss, gap, false, 2), box("A1:B3", 2, 1, gap, gap, "", 5),
	}
}

// kinds are arguments that may be, single ones and rectangles.
func kinds() []api.Arg {
	list := row(values()...)
	list = append(list, api.Arg{Value: text("x"), Entries: []api.Entry{}})
	return append(list, boxes()...)
}

// wrongValues are values that may not be: each tag with each of the fields, and the numbers and codes that no value has.
func wrongValues() []api.Value {
	list := []api.Value{parts(math.MinInt64), fault(0), fault(9), fault(-1), fault(math.MaxInt), {Tag: math.MaxInt}, {Tag: math.MinInt}}
	for tag := api.Blank - 1; tag <= api.Fault+1; tag++ {
		for fields := range 16 {
			v := api.Value{Tag: tag, Is: fields&1 != 0}
			if fields&2 != 0 {
				v.Num = 10000
			}
			if fields&4 != 0 {
				v.Str = "x"
			}
			if fields&8 != 0 {
				v.Code = api.CodeDiv
			}
			if !value.May(v) {
				list = append(list, v)
			}
		}
	}
	return list
}

// wrongSingles are single arguments that may not be: of values that may not be, and of more than a value.
func wrongSingles() []api.Arg {
	var list []api.Arg
	for _, v := range wrongValues() {
		list = append(list, api.Arg{Value: v})
	}
	for _, v := range []api.Value{{}, text("b"), wholes(1), truth(true), fault(api.CodeDiv)} {
		list = append(list, api.Arg{Value: v, Rect: api.Rect{Top: 1, Left: 1, Bottom: 2, Right: 2}}, api.Arg{Value: v, Rect: api.Rect{Bottom: -1}})
		list = append(list, api.Arg{Value: v, Entries: []api.Entry{{}}}, api.Arg{Value: v, Entries: box("A1:A1", 1).Entries})
	}
	return list
}

// wrongRects are rectangles that may not be: as such, with a value, with entries that may not be, are outside, out of order, or stand twice.
func wrongRects() []api.Arg {
	var list []api.Arg
	for _, r := range []api.Rect{
		{}, {Left: 1, Bottom: 1, Right: 1}, {Top: 1, Bottom: 1, Right: 1}, {Top: 1, Left: 1, Right: 1}, {Top: 1, Left: 1, Bottom: 1}, {Top: 2, Left: 1, Bottom: 1, Right: 1}, {Top: 1, Left: 2, Bottom: 1, Right: 1},
		{Top: 1, Left: 1, Bottom: 4097, Right: 1}, {Top: 1, Left: 1, Bottom: 1, Right: 257}, {Top: 4097, Left: 1, Bottom: 4097, Right: 1}, {Top: 1, Left: 257, Bottom: 1, Right: 257}, {Top: -1, Left: 1, Bottom: 1, Right: 1}, {Top: 1, Left: -1, Bottom: 1, Right: 1},
		{Top: math.MinInt, Left: math.MinInt, Bottom: math.MaxInt, Right: math.MaxInt}, {Top: 1, Left: 1, Bottom: math.MaxInt, Right: 1}, {Top: 1, Left: 1, Bottom: 1, Right: math.MaxInt},
	} {
		list = append(list, api.Arg{Many: true, Rect: r}, api.Arg{Many: true, Rect: r, Entries: box("A1:A1", 1).Entries})
	}
	right := box("B2:D4", 1, 2, "x", 4, 5, 6, 7, 8, 9)
	for _, v := range append(wrongValues(), text("b"), wholes(1), truth(false), fault(api.CodeDiv)) {
		a := right
		a.Value = v
		list = append(list, a, api.Arg{Many: true, Value: v, Rect: right.Rect})
	}
	for _, v := range wrongValues() {
		list = append(list, box("B2:D4", 1, v), box("B2:D4", nil, nil, nil, nil, nil, nil, nil, nil, v))
	}
	return append(list, wrongEntries(right)...)
}

// wrongEntries are a rectangle with entries outside of it, out of order, or twice.
func wrongEntries(a api.Arg) []api.Arg {
	var list []api.Arg
	with := func(entries ...api.Entry) {
		list = append(list, api.Arg{Many: true, Rect: a.Rect, Entries: entries})
	}
	e := a.Entries
	for i := 1; i < len(e); i++ {
		with(e[i], e[i-1])
		with(e[i], e[0])
		with(e[i], e[i])
		with(append(append(append([]api.Entry{}, e[:i]...), e[i-1]), e[i:]...)...)
	}
	for _, c := range []api.Cell{{}, {Row: 1, Col: 2}, {Row: 2, Col: 1}, {Row: 2, Col: 5}, {Row: 5, Col: 2}, {Row: 3, Col: 1}, {Row: 3, Col: 5}, {Row: -2, Col: 2}, {Row: 2, Col: -2}, {Row: math.MaxInt, Col: 2}, {Row: 3, Col: math.MinInt}, {Row: math.MinInt, Col: math.MaxInt}} {
		with(api.Entry{Cell: c, Value: wholes(1)})
		with(api.Entry{Cell: c})
		with(e[0], api.Entry{Cell: c, Value: wholes(1)})
		with(append(e[:len(e):len(e)], api.Entry{Cell: c, Value: wholes(1)})...)
	}
	return list
}

// wrongArgs are all arguments that may not be.
func wrongArgs() []api.Arg { return append(wrongSingles(), wrongRects()...) }

// randomValue is one of a few, so that some are the same, or a random number.
func randomValue(rnd *rand.Rand, faults bool) any {
	list := values()
	switch rnd.Intn(8) {
	case 0, 1, 2:
		return parts(rnd.Int63n(60000) - 30000)
	case 3:
		return parts(rnd.Int63() - rnd.Int63())
	}
	if !faults {
		list = list[:len(list)-4]
	}
	return list[rnd.Intn(len(list))]
}

// randomBox is a rectangle of so many rows and columns, somewhere, with some entries.
func randomBox(rnd *rand.Rand, height, width int, faults bool) api.Arg {
	r := api.Rect{Top: 1 + rnd.Intn(4096-height+1), Left: 1 + rnd.Intn(256-width+1)}
	r.Bottom, r.Right = r.Top+height-1, r.Left+width-1
	var list []any
	full := rnd.Intn(4)
	for range height * width {
		if rnd.Intn(4) < full {
			list = append(list, nil)
		} else {
			list = append(list, randomValue(rnd, faults))
		}
	}
	return box(addr.NameRect(r), list...)
}
