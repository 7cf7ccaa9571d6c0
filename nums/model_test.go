package nums

import (
	"fmt"
	"math"
	"math/big"
	"math/rand"
	"strings"
	"testing"

	"oriel/api"
)

func number(x int64) api.Value   { return api.Value{Tag: api.Number, Num: x} }
func text(s string) api.Value    { return api.Value{Tag: api.Text, Str: s} }
func truth(is bool) api.Value    { return api.Value{Tag: api.Bool, Is: is} }
func fault(c api.Code) api.Value { return api.Value{Tag: api.Fault, Code: c} }

// row are single arguments.
func row(values ...api.Value) []api.Arg {
	var list []api.Arg
	for _, v := range values {
		list = append(list, api.Arg{Value: v})
	}
	return list
}

// parts are single arguments that are numbers of so many parts.
func parts(numbers ...int64) []api.Arg {
	var list []api.Arg
	for _, x := range numbers {
		list = append(list, api.Arg{Value: number(x)})
	}
	return list
}

// calls checks what a function answers.
func calls(t *testing.T, want api.Value, name string, args ...api.Arg) {
	t.Helper()
	if v := Call(name, args, 8); v != want {
		t.Errorf("%s(%s) = %s; want %s", name, brief(args), show(v), show(want))
	}
}

// models checks that a function answers what the model does.
func models(t *testing.T, name string, args []api.Arg) {
	t.Helper()
	if v, want := Call(name, args, 8), model(name, args); v != want {
		t.Fatalf("%s(%s) = %s; want %s", name, brief(args), show(v), show(want))
	}
}

// show is a value, written out for who reads a failure.
func show(v api.Value) string { return fmt.Sprintf("%.200s", fmt.Sprintf("%+v", v)) }

// brief is a list of arguments, likewise.
func brief(args []api.Arg) string {
	var list []string
	for _, a := range args {
		switch {
		case a.Many || a.Rect != api.Rect{} || a.Entries != nil:
			list = append(list, fmt.Sprintf("%.200s", fmt.Sprintf("%+v", a)))
		case a.Value == number(a.Value.Num):
			list = append(list, fmt.Sprintf("%d/10000", a.Value.Num))
		default:
			list = append(list, show(a.Value))
		}
	}
	return strings.Join(list, ", ")
}

// counts are how many arguments the functions take, by the chapter's table.
func counts() map[string][2]int {
	return map[string][2]int{
		"ABS": {1, 1}, "SIGN": {1, 1}, "INT": {1, 1}, "TRUNC": {1, 2}, "ROUND": {1, 2}, "FLOOR": {2, 2}, "CEIL": {2, 2}, "MOD": {2, 2},
		"QUOT": {2, 2}, "POWER": {2, 2}, "SQRT": {1, 1}, "GCD": {1, 16}, "LCM": {1, 16}, "FACT": {1, 1}, "CLAMP": {3, 3}, "ODD": {1, 1},
	}
}

// may tells whether a value may be, by chapter 2.
func may(v api.Value) bool {
	switch v.Tag {
	case api.Blank:
		return v == api.Value{}
	case api.Number:
		return v == number(v.Num) && v.Num != math.MinInt64
	case api.Text:
		return v == text(v.Str)
	case api.Bool:
		return v == truth(v.Is)
	case api.Fault:
		return v == fault(v.Code) && v.Code >= 1 && v.Code <= 8
	}
	return false
}

// model is what a call answers, by the chapter's words over exact numbers.
func model(name string, args []api.Arg) api.Value {
	count, known := counts()[name]
	if !known || len(args) < count[0] || len(args) > count[1] {
		return fault(api.CodeArg)
	}
	for _, a := range args {
		if a.Many || !may(a.Value) || a.Rect != (api.Rect{}) || len(a.Entries) != 0 {
			return fault(api.CodeArg)
		}
	}
	for _, a := range args {
		if a.Value.Tag == api.Fault {
			return a.Value
		}
	}
	var numbers []*big.Rat
	for _, a := range args {
		switch {
		case a.Value.Tag == api.Text:
			return fault(api.CodeType)
		case a.Value.Is:
			numbers = append(numbers, big.NewRat(1, 1))
		default:
			numbers = append(numbers, big.NewRat(a.Value.Num, 10000))
		}
	}
	return modelOf(name, numbers)
}

// modelOf is what a function answers of numbers.
func modelOf(name string, x []*big.Rat) api.Value {
	zero, one := new(big.Rat), big.NewRat(1, 1)
	switch name {
	case "ABS":
		return nearest(new(big.Rat).Abs(x[0]))
	case "SIGN":
		return nearest(big.NewRat(int64(x[0].Sign()), 1))
	case "INT":
		return nearest(lower(x[0], one))
	case "TRUNC", "ROUND":
		return modelPlaces(name, x)
	case "FLOOR", "CEIL":
		if x[1].Sign() <= 0 {
			return fault(api.CodeArg)
		}
		if name == "FLOOR" {
			return nearest(lower(x[0], x[1]))
		}
		return nearest(upper(x[0], x[1]))
	case "MOD", "QUOT":
		if x[1].Sign() == 0 {
			return fault(api.CodeDiv)
		}
		if name == "MOD" {
			return nearest(new(big.Rat).Sub(x[0], lower(x[0], x[1])))
		}
		return nearest(inner(new(big.Rat).Quo(x[0], x[1]), one))
	case "SQRT":
		return modelRoot(x[0])
	case "CLAMP":
		switch {
		case x[1].Cmp(x[2]) > 0:
			return fault(api.CodeArg)
		case x[0].Cmp(x[1]) < 0:
			return nearest(x[1])
		case x[0].Cmp(x[2]) > 0:
			return nearest(x[2])
		}
		return nearest(x[0])
	}
	last := x
	if name == "POWER" {
		last = x[1:]
	}
	for _, n := range last {
		if !n.IsInt() {
			return fault(api.CodeArg)
		}
	}
	switch name {
	case "POWER":
		return modelPower(x[0], x[1].Num())
	case "FACT":
		if x[0].Cmp(zero) < 0 {
			return fault(api.CodeArg)
		}
		return modelProduct(x[0].Num())
	case "ODD":
		return truth(x[0].Num().Bit(0) == 1)
	}
	return modelDivides(name, x)
}

// lower is the greatest multiple, for steps above 0, that is not above a number; for one below 0 the least that is not below it.
func lower(x, step *big.Rat) *big.Rat {
	q := new(big.Rat).Quo(x, step)
	whole := new(big.Int).Div(q.Num(), q.Denom()) // the denominator is above 0, so that Div goes down
	return new(big.Rat).Mul(new(big.Rat).SetInt(whole), step)
}

// upper is the least multiple of a step above 0 that is not below a number.
func upper(x, step *big.Rat) *big.Rat {
	below := lower(new(big.Rat).Neg(x), step)
	return below.Neg(below)
}

// inner is the multiple of a step above 0 that is nearest to a number and not further from nought.
func inner(x, step *big.Rat) *big.Rat {
	if x.Sign() < 0 {
		return upper(x, step)
	}
	return lower(x, step)
}

// rounded is the nearest multiple of a step above 0; of two the one further from nought.
func rounded(x, step *big.Rat) *big.Rat {
	half := new(big.Rat).Mul(step, big.NewRat(1, 2))
	if x.Sign() < 0 {
		return upper(new(big.Rat).Sub(x, half), step)
	}
	return lower(new(big.Rat).Add(x, half), step)
}

// nearest is an exact value, rounded, or Fault CodeNum.
func nearest(x *big.Rat) api.Value {
	near := rounded(x, big.NewRat(1, 10000))
	near.Mul(near, big.NewRat(10000, 1))
	if !near.Num().IsInt64() || near.Num().Int64() == math.MinInt64 {
		return fault(api.CodeNum)
	}
	return number(near.Num().Int64())
}

func modelPlaces(name string, x []*big.Rat) api.Value {
	n := new(big.Rat)
	if len(x) > 1 {
		n = x[1]
	}
	if !n.IsInt() {
		return fault(api.CodeArg)
	}
	// Beyond these the multiples are finer than parts, or coarser than all numbers.
	places := max(-40, min(40, n.Num().Int64()))
	ten := new(big.Rat).SetInt(new(big.Int).Exp(big.NewInt(10), big.NewInt(max(places, -places)), nil))
	step := ten
	if places > 0 {
		step = new(big.Rat).Inv(ten)
	}
	if name == "TRUNC" {
		return nearest(inner(x[0], step))
	}
	return nearest(rounded(x[0], step))
}

func modelPower(x *big.Rat, n *big.Int) api.Value {
	if n.CmpAbs(big.NewInt(64)) > 0 {
		return fault(api.CodeArg)
	}
	if x.Sign() == 0 && n.Sign() < 0 {
		return fault(api.CodeDiv)
	}
	product := big.NewRat(1, 1)
	for range new(big.Int).Abs(n).Int64() {
		product.Mul(product, x)
	}
	if n.Sign() < 0 {
		product.Inv(product)
	}
	return nearest(product)
}

func modelRoot(x *big.Rat) api.Value {
	if x.Sign() < 0 {
		return fault(api.CodeArg)
	}
	// Twice the root in parts, without what is behind its whole part: halves of parts.
	square := new(big.Rat).Mul(x, big.NewRat(4*10000*10000, 1))
	halves := new(big.Int).Sqrt(square.Num())
	return nearest(new(big.Rat).SetFrac(halves, big.NewInt(20000)))
}

func modelProduct(n *big.Int) api.Value {
	product := big.NewInt(1)
	for i := int64(1); n.CmpAbs(big.NewInt(i)) >= 0; i++ {
		if i > 30 {
			return fault(api.CodeNum)
		}
		product.Mul(product, big.NewInt(i))
	}
	return nearest(new(big.Rat).SetInt(product))
}

// modelDivides is GCD or LCM of whole numbers.
func modelDivides(name string, x []*big.Rat) api.Value {
	divisor, multiple := new(big.Int), big.NewInt(1)
	for _, n := range x {
		size := new(big.Int).Abs(n.Num())
		divisor.GCD(nil, nil, divisor, size)
		both := new(big.Int).GCD(nil, nil, multiple, size)
		if both.Sign() != 0 {
			multiple.Div(multiple.Mul(multiple, size), both)
		}
	}
	if name == "GCD" {
		return nearest(new(big.Rat).SetInt(divisor))
	}
	return nearest(new(big.Rat).SetInt(multiple))
}

// someNumbers are of all sizes, whole and with parts, with both signs.
func someNumbers() []int64 {
	list := []int64{0}
	for _, x := range []int64{
		1, 2, 3, 49, 50, 51, 99, 101, 499, 500, 501, 999, 1001, 4999, 5000, 5001, 9999, 10001, 12345, 12350, 14999, 15000, 15001, 20000, 25000, 30000, 40000, 50000, 60000, 70000, 75000,
		120000, 140000, 150000, 160000, 170000, 180000, 190000, 630000, 640000, 640001, 650000, 1270000, 1 << 31, 1 << 32, 1<<53 + 1, 1 << 62, 2562047788015215, 3037000499, 3037000500, 30370004990000, 30370005000000,
		922337203685477 * 10000, 922337203685476 * 10000, 461168601842738 * 10000, 461168601842739 * 10000, 5e18, 5e18 - 1, math.MaxInt64/2 + 1, math.MaxInt64 / 3, math.MaxInt64 - 10000, math.MaxInt64 - 1, math.MaxInt64,
	} {
		list = append(list, x, -x)
	}
	for x := int64(10); x < 1e18; x *= 10 {
		list = append(list, x, -x)
	}
	return append(list, 1e18, -1e18)
}

// random is a number of any size, often a whole one, often a small one.
func random(rnd *rand.Rand) int64 {
	x := rnd.Int63() >> rnd.Intn(63)
	switch rnd.Intn(4) {
	case 0:
		x -= x % 10000
	case 1:
		x = x % 70 * 10000
	case 2:
		x = x % 300 * 2500
	}
	if rnd.Intn(2) == 0 {
		return -x
	}
	return x
}

// wrongValues are values that may not be, of each kind.
func wrongValues() []api.Value {
	return []api.Value{
		{Num: 1}, {Str: "x"}, {Is: true}, {Code: 3}, {Tag: -1}, {Tag: 5}, {Tag: math.MaxInt}, {Tag: math.MinInt}, number(math.MinInt64),
		{Tag: api.Number, Str: "1"}, {Tag: api.Number, Num: 1, Is: true}, {Tag: api.Number, Code: 3}, {Tag: api.Text, Num: 1}, {Tag: api.Text, Str: "x", Is: true}, {Tag: api.Text, Str: "x", Code: 3},
		{Tag: api.Bool, Num: 10000}, {Tag: api.Bool, Is: true, Str: "TRUE"}, {Tag: api.Bool, Code: 3}, fault(0), fault(9), fault(-1), fault(math.MaxInt), {Tag: api.Fault, Code: 3, Num: 1}, {Tag: api.Fault, Code: 3, Str: "x"}, {Tag: api.Fault, Code: 3, Is: true},
	}
}

// wrongArgs are arguments that may not be here: values that may not be, single ones with more than a value, rectangles of each kind.
func wrongArgs() []api.Arg {
	var list []api.Arg
	for _, v := range wrongValues() {
		list = append(list, api.Arg{Value: v})
	}
	one := number(10000)
	entry := func(row, col int, v api.Value) api.Entry {
		return api.Entry{Cell: api.Cell{Row: row, Col: col}, Value: v}
	}
	all := api.Rect{Top: 1, Left: 1, Bottom: 2, Right: 2}
	return append(list, []api.Arg{
		{Value: one, Rect: all}, {Value: one, Rect: api.Rect{Top: 1}}, {Value: one, Rect: api.Rect{Left: 1}}, {Value: one, Rect: api.Rect{Bottom: 1}}, {Value: one, Rect: api.Rect{Right: -1}},
		{Value: one, Entries: []api.Entry{entry(1, 1, one)}}, {Value: one, Entries: []api.Entry{{}}}, {Rect: all}, {Entries: []api.Entry{{}}}, {Value: fault(3), Rect: all}, {Value: fault(3), Entries: []api.Entry{{}}}, {Value: text("x"), Rect: all},
		{Many: true, Rect: all}, {Many: true, Rect: all, Entries: []api.Entry{entry(1, 1, one), entry(2, 2, api.Value{})}}, {Many: true, Rect: api.Rect{Top: 1, Left: 1, Bottom: 1, Right: 1}}, {Many: true, Rect: api.Rect{Top: 1, Left: 1, Bottom: 4096, Right: 256}},
		{Many: true}, {Many: true, Value: one}, {Many: true, Value: fault(3)}, {Many: true, Rect: all, Value: one}, {Many: true, Rect: api.Rect{Top: 2, Left: 1, Bottom: 1, Right: 1}}, {Many: true, Rect: api.Rect{Top: 1, Left: 1, Bottom: 4097, Right: 1}},
		{Many: true, Rect: all, Entries: []api.Entry{entry(3, 1, one)}}, {Many: true, Rect: all, Entries: []api.Entry{entry(1, 2, one), entry(1, 1, one)}}, {Many: true, Rect: all, Entries: []api.Entry{entry(1, 1, one), entry(1, 1, one)}},
		{Many: true, Rect: all, Entries: []api.Entry{entry(1, 1, number(math.MinInt64))}}, {Many: true, Rect: all, Entries: []api.Entry{entry(1, 1, fault(3))}},
	}...)
}

// kinds are single arguments that may be, of each kind.
func kinds() []api.Arg {
	list := append(row(api.Value{}, truth(true), truth(false), text(""), text("x"), text("1"), text("-1.5"), text("TRUE"), text("#DIV!")), parts(0, 10000, -10000, 25000, -5001, math.MaxInt64, -math.MaxInt64)...)
	for c := api.CodeCycle; c <= api.CodeArg; c++ {
		list = append(list, api.Arg{Value: fault(c)})
	}
	return append(list, api.Arg{Value: number(20000), Entries: []api.Entry{}})
}
