package nums

import (
	"math"
	"slices"
	"testing"

	"oriel/api"
)

const (
	greatest = math.MaxInt64
	// greatestWhole is the greatest whole number, in parts.
	greatestWhole = 922337203685477 * 10000
)

// edge is a call with numbers, and what it answers: parts, or a Code.
type edge struct {
	name string
	x    []int64
	want int64
	code api.Code
}

// checks are edges, each held against what is written down beside it.
func checks(t *testing.T, edges []edge) {
	t.Helper()
	for _, e := range edges {
		want := number(e.want)
		if e.code != api.CodeNone {
			want = fault(e.code)
		}
		calls(t, want, e.name, parts(e.x...)...)
	}
}

// The rows ABS, SIGN, INT: the greatest and the least number, and what is close to nought.
func TestOneEdges(t *testing.T) {
	checks(t, []edge{
		{"ABS", []int64{greatest}, greatest, 0}, {"ABS", []int64{-greatest}, greatest, 0}, {"ABS", []int64{-1}, 1, 0}, {"ABS", []int64{0}, 0, 0},
		{"SIGN", []int64{greatest}, 10000, 0}, {"SIGN", []int64{-greatest}, -10000, 0}, {"SIGN", []int64{1}, 10000, 0}, {"SIGN", []int64{-1}, -10000, 0}, {"SIGN", []int64{0}, 0, 0},
		{"INT", []int64{greatest}, greatestWhole, 0}, {"INT", []int64{-greatest}, 0, api.CodeNum}, {"INT", []int64{-greatestWhole}, -greatestWhole, 0}, {"INT", []int64{-greatestWhole - 1}, 0, api.CodeNum},
		{"INT", []int64{1}, 0, 0}, {"INT", []int64{-1}, -10000, 0}, {"INT", []int64{9999}, 0, 0}, {"INT", []int64{-10000}, -10000, 0}, {"INT", []int64{-10001}, -20000, 0},
	})
}

// The rows TRUNC and ROUND: places below 0 and above 4, also far beyond, and places that are not whole.
func TestPlaces(t *testing.T) {
	checks(t, []edge{
		{"TRUNC", []int64{19999}, 10000, 0}, {"TRUNC", []int64{-19999}, -10000, 0}, {"TRUNC", []int64{19999, 0}, 10000, 0}, {"TRUNC", []int64{9999, 30000}, 9990, 0}, {"TRUNC", []int64{-9999, 30000}, -9990, 0},
		{"TRUNC", []int64{9999, 40000}, 9999, 0}, {"TRUNC", []int64{9999, 50000}, 9999, 0}, {"TRUNC", []int64{-9999, greatestWhole}, -9999, 0}, {"TRUNC", []int64{9999, -greatestWhole}, 0, 0},
		{"TRUNC", []int64{greatest}, greatestWhole, 0}, {"TRUNC", []int64{-greatest}, -greatestWhole, 0}, {"TRUNC", []int64{greatest, 40000}, greatest, 0}, {"TRUNC", []int64{-greatest, 30000}, -9223372036854775800, 0},
		{"TRUNC", []int64{greatest, -140000}, 9e18, 0}, {"TRUNC", []int64{-greatest, -140000}, -9e18, 0}, {"TRUNC", []int64{greatest, -150000}, 0, 0}, {"TRUNC", []int64{-greatest, -150000}, 0, 0}, {"TRUNC", []int64{greatest, -160000}, 0, 0}, {"TRUNC", []int64{greatest, -200000}, 0, 0},
		{"TRUNC", []int64{9e18 - 1, -140000}, 8e18, 0}, {"TRUNC", []int64{1e18, -140000}, 1e18, 0}, {"TRUNC", []int64{1e18 - 1, -140000}, 0, 0}, {"TRUNC", []int64{10000, -640000}, 0, 0}, {"TRUNC", []int64{10000, 42949672960000}, 10000, 0}, {"TRUNC", []int64{10000, -42949672960000}, 0, 0},
		{"TRUNC", []int64{10000, 5000}, 0, api.CodeArg}, {"TRUNC", []int64{10000, 1}, 0, api.CodeArg}, {"TRUNC", []int64{10000, -1}, 0, api.CodeArg}, {"TRUNC", []int64{10000, greatest}, 0, api.CodeArg}, {"TRUNC", []int64{0, -greatest}, 0, api.CodeArg},
		{"ROUND", []int64{15000}, 20000, 0}, {"ROUND", []int64{-15000}, -20000, 0}, {"ROUND", []int64{14999}, 10000, 0}, {"ROUND", []int64{12350, 20000}, 12400, 0}, {"ROUND", []int64{50000, -10000}, 100000, 0}, {"ROUND", []int64{12345, 40000}, 12345, 0},
		{"ROUND", []int64{12345, 50000}, 12345, 0}, {"ROUND", []int64{12345, greatestWhole}, 12345, 0}, {"ROUND", []int64{greatest, -greatestWhole}, 0, 0}, {"ROUND", []int64{greatest, -150000}, 0, api.CodeNum}, {"ROUND", []int64{greatest, -160000}, 0, 0},
		{"ROUND", []int64{greatest}, 0, api.CodeNum}, {"ROUND", []int64{-greatest, 30000}, 0, api.CodeNum}, {"ROUND", []int64{greatest, 40000}, greatest, 0}, {"ROUND", []int64{5e18 - 1, -150000}, 0, 0}, {"ROUND", []int64{10000, 42949672960000}, 10000, 0}, {"ROUND", []int64{10000, -42949672960000}, 0, 0},
		{"ROUND", []int64{10000, 1}, 0, api.CodeArg}, {"ROUND", []int64{10000, -9999}, 0, api.CodeArg}, {"ROUND", []int64{greatest, greatest}, 0, api.CodeArg},
	})
}

// The rows FLOOR, CEIL and QUOT: multiples and quotients that may not be, and those that just may.
func TestMultiples(t *testing.T) {
	checks(t, []edge{
		{"FLOOR", []int64{-greatest, 20000}, 0, api.CodeNum}, {"FLOOR", []int64{-greatest, 1}, -greatest, 0}, {"FLOOR", []int64{-greatest, 2}, 0, api.CodeNum}, {"FLOOR", []int64{-greatest, greatest}, -greatest, 0}, {"FLOOR", []int64{1 - greatest, greatest}, -greatest, 0},
		{"FLOOR", []int64{-greatest, greatest - 1}, 0, api.CodeNum}, {"FLOOR", []int64{greatest, greatest - 1}, greatest - 1, 0}, {"FLOOR", []int64{-1, greatest}, -greatest, 0}, {"FLOOR", []int64{greatest, 20000}, greatest - 15807, 0}, {"FLOOR", []int64{0, 1}, 0, 0},
		{"FLOOR", []int64{10000, -1}, 0, api.CodeArg}, {"FLOOR", []int64{10000, -greatest}, 0, api.CodeArg}, {"FLOOR", []int64{0, 0}, 0, api.CodeArg}, {"FLOOR", []int64{12345, 2500}, 10000, 0}, {"FLOOR", []int64{-12345, 2500}, -12500, 0},
		{"CEIL", []int64{greatest, 20000}, 0, api.CodeNum}, {"CEIL", []int64{greatest, 1}, greatest, 0}, {"CEIL", []int64{greatest, 2}, 0, api.CodeNum}, {"CEIL", []int64{greatest, greatest}, greatest, 0}, {"CEIL", []int64{1, greatest}, greatest, 0},
		{"CEIL", []int64{greatest, greatest - 1}, 0, api.CodeNum}, {"CEIL", []int64{-greatest, greatest - 1}, 1 - greatest, 0}, {"CEIL", []int64{-1, greatest}, 0, 0}, {"CEIL", []int64{-greatest, 20000}, 15807 - greatest, 0}, {"CEIL", []int64{0, 1}, 0, 0},
		{"CEIL", []int64{10000, -1}, 0, api.CodeArg}, {"CEIL", []int64{10000, 0}, 0, api.CodeArg}, {"CEIL", []int64{0, -greatest}, 0, api.CodeArg}, {"CEIL", []int64{12345, 2500}, 12500, 0}, {"CEIL", []int64{-12345, 2500}, -10000, 0},
		{"QUOT", []int64{greatest, 1}, 0, api.CodeNum}, {"QUOT", []int64{-greatest, 1}, 0, api.CodeNum}, {"QUOT", []int64{greatest, -1}, 0, api.CodeNum}, {"QUOT", []int64{greatest, 9999}, 0, api.CodeNum}, {"QUOT", []int64{greatest, 10000}, greatestWhole, 0}, {"QUOT", []int64{-greatest, 10000}, -greatestWhole, 0},
		{"QUOT", []int64{greatestWhole, 10000}, greatestWhole, 0}, {"QUOT", []int64{922337203685477, 1}, greatestWhole, 0}, {"QUOT", []int64{922337203685478, 1}, 0, api.CodeNum}, {"QUOT", []int64{-922337203685477, 1}, -greatestWhole, 0}, {"QUOT", []int64{922337203685478, -1}, 0, api.CodeNum},
		{"QUOT", []int64{greatest, greatest}, 10000, 0}, {"QUOT", []int64{-greatest, greatest}, -10000, 0}, {"QUOT", []int64{greatest - 1, greatest}, 0, 0}, {"QUOT", []int64{1 - greatest, greatest}, 0, 0}, {"QUOT", []int64{0, -1}, 0, 0}, {"QUOT", []int64{0, 0}, 0, api.CodeDiv}, {"QUOT", []int64{greatest, 0}, 0, api.CodeDiv},
		{"QUOT", []int64{19999, -10000}, -10000, 0}, {"QUOT", []int64{-19999, -10000}, 10000, 0}, {"QUOT", []int64{20000, 30000}, 0, 0}, {"QUOT", []int64{-20000, 30000}, 0, 0},
		{"MOD", []int64{greatest, greatest - 1}, 1, 0}, {"MOD", []int64{-1, greatest}, greatest - 1, 0}, {"MOD", []int64{1, -greatest}, 1 - greatest, 0}, {"MOD", []int64{-greatest, greatest}, 0, 0}, {"MOD", []int64{75000, -20000}, -5000, 0}, {"MOD", []int64{0, 0}, 0, api.CodeDiv},
	})
}

// The rows POWER and SQRT: exponents at their bounds, roots of the greatest number and of what is below 0.
func TestPowers(t *testing.T) {
	checks(t, []edge{
		{"POWER", []int64{10000, 640000}, 10000, 0}, {"POWER", []int64{10000, -640000}, 10000, 0}, {"POWER", []int64{-10000, 640000}, 10000, 0}, {"POWER", []int64{-10000, 630000}, -10000, 0}, {"POWER", []int64{10000, 650000}, 0, api.CodeArg}, {"POWER", []int64{10000, -650000}, 0, api.CodeArg},
		{"POWER", []int64{10000, greatestWhole}, 0, api.CodeArg}, {"POWER", []int64{10000, -greatestWhole}, 0, api.CodeArg}, {"POWER", []int64{10000, 42949672960000}, 0, api.CodeArg}, {"POWER", []int64{10000, -42949672960000}, 0, api.CodeArg}, {"POWER", []int64{10000, 10000000}, 0, api.CodeArg},
		{"POWER", []int64{0, -10000}, 0, api.CodeDiv}, {"POWER", []int64{0, -650000}, 0, api.CodeArg}, {"POWER", []int64{0, -5000}, 0, api.CodeArg}, {"POWER", []int64{0, 0}, 10000, 0}, {"POWER", []int64{0, 640000}, 0, 0}, {"POWER", []int64{greatest, 0}, 10000, 0}, {"POWER", []int64{-greatest, 10000}, -greatest, 0},
		{"POWER", []int64{greatest, 20000}, 0, api.CodeNum}, {"POWER", []int64{-greatest, 640000}, 0, api.CodeNum}, {"POWER", []int64{20000, 490000}, 562949953421312 * 10000, 0}, {"POWER", []int64{20000, 500000}, 0, api.CodeNum}, {"POWER", []int64{20000, -640000}, 0, 0}, {"POWER", []int64{30000, -20000}, 1111, 0}, {"POWER", []int64{1, -640000}, 0, api.CodeNum},
		{"POWER", []int64{20000, 1}, 0, api.CodeArg}, {"POWER", []int64{20000, greatest}, 0, api.CodeArg},
		{"SQRT", []int64{0}, 0, 0}, {"SQRT", []int64{1}, 100, 0}, {"SQRT", []int64{40000}, 20000, 0}, {"SQRT", []int64{20000}, 14142, 0}, {"SQRT", []int64{greatest}, 303700049998, 0}, {"SQRT", []int64{-1}, 0, api.CodeArg}, {"SQRT", []int64{-greatest}, 0, api.CodeArg},
	})
}

// The row FACT: 17 and 18, and great numbers, which end at once.
func TestFact(t *testing.T) {
	product := int64(10000)
	for n := int64(0); n <= 17; n++ {
		if n > 0 {
			product *= n
		}
		checks(t, []edge{{"FACT", []int64{n * 10000}, product, 0}, {"FACT", []int64{n*10000 + 1}, 0, api.CodeArg}, {"FACT", []int64{-n*10000 - 10000}, 0, api.CodeArg}})
	}
	checks(t, []edge{
		{"FACT", []int64{180000}, 0, api.CodeNum}, {"FACT", []int64{190000}, 0, api.CodeNum}, {"FACT", []int64{210000}, 0, api.CodeNum}, {"FACT", []int64{650000}, 0, api.CodeNum}, {"FACT", []int64{greatestWhole}, 0, api.CodeNum}, {"FACT", []int64{greatest}, 0, api.CodeArg},
		{"FACT", []int64{5000}, 0, api.CodeArg}, {"FACT", []int64{-1}, 0, api.CodeArg}, {"FACT", []int64{-5000}, 0, api.CodeArg}, {"FACT", []int64{-greatestWhole}, 0, api.CodeArg}, {"FACT", []int64{-greatest}, 0, api.CodeArg},
	})
}

// The rows GCD and LCM: great numbers, and what is not whole, also beside a 0.
func TestDivides(t *testing.T) {
	checks(t, []edge{
		{"GCD", []int64{greatestWhole}, greatestWhole, 0}, {"GCD", []int64{-greatestWhole, 0}, greatestWhole, 0}, {"GCD", []int64{greatestWhole, greatestWhole - 10000}, 10000, 0}, {"GCD", []int64{0, 0, 0}, 0, 0}, {"GCD", []int64{0, -30000}, 30000, 0}, {"GCD", []int64{-30000}, 30000, 0},
		{"GCD", []int64{120000, 180000, 270000}, 30000, 0}, {"GCD", []int64{greatest}, 0, api.CodeArg}, {"GCD", []int64{0, 1}, 0, api.CodeArg}, {"GCD", []int64{10000, 10000, 5000}, 0, api.CodeArg}, {"GCD", []int64{-1, 10000}, 0, api.CodeArg},
		{"LCM", []int64{greatestWhole}, greatestWhole, 0}, {"LCM", []int64{-greatestWhole}, greatestWhole, 0}, {"LCM", []int64{greatestWhole, -greatestWhole}, greatestWhole, 0}, {"LCM", []int64{greatestWhole, greatestWhole - 10000}, 0, api.CodeNum}, {"LCM", []int64{greatestWhole, 20000}, 0, api.CodeNum},
		{"LCM", []int64{greatestWhole, greatestWhole - 10000, 0}, 0, 0}, {"LCM", []int64{0, greatestWhole, greatestWhole - 10000}, 0, 0}, {"LCM", []int64{greatestWhole, 0, greatestWhole - 10000}, 0, 0}, {"LCM", []int64{greatestWhole, greatestWhole - 10000, 0, 5000}, 0, api.CodeArg}, {"LCM", []int64{greatestWhole, greatestWhole - 10000, 5000}, 0, api.CodeArg},
		{"LCM", []int64{0}, 0, 0}, {"LCM", []int64{-40000, 60000}, 120000, 0}, {"LCM", []int64{10000}, 10000, 0}, {"LCM", []int64{0, 1}, 0, api.CodeArg}, {"LCM", []int64{1, 0}, 0, api.CodeArg}, {"LCM", []int64{greatest}, 0, api.CodeArg},
		{"LCM", []int64{303700040000, 303700050000}, 922337173330020 * 10000, 0}, {"LCM", []int64{303700050000, 303700060000}, 0, api.CodeNum}, {"LCM", []int64{303700050000, -303700060000}, 0, api.CodeNum},
	})
}

// The rows GCD and LCM: one, 16 and 17 arguments, and none.
func TestDividesCount(t *testing.T) {
	primes := []int64{2, 3, 5, 7, 11, 13, 17, 19, 23, 29, 31, 37, 41, 43, 47, 53}
	var args []api.Arg
	divisor, product := int64(2), int64(1)
	for i, p := range primes {
		args = append(args, parts(p*10000)...)
		calls(t, number(divisor*10000), "GCD", args...)
		divisor = 1
		// The product of the first 13 is 304250263527210; times 43 it may not be.
		want := fault(api.CodeNum)
		if i < 13 {
			product *= p
			want = number(product * 10000)
		}
		calls(t, want, "LCM", args...)
	}
	for _, name := range []string{"GCD", "LCM"} {
		calls(t, fault(api.CodeArg), name)
		calls(t, number(60000), name, parts(60000)...)
		calls(t, number(60000), name, slices.Repeat(parts(60000), 16)...)
		calls(t, fault(api.CodeArg), name, slices.Repeat(parts(60000), 17)...)
		calls(t, fault(api.CodeArg), name, slices.Repeat(parts(0), 17)...)
	}
}

// The row ODD: great numbers, numbers below 0, and what is not whole.
func TestOdd(t *testing.T) {
	for n := int64(-50); n <= 50; n++ {
		calls(t, truth(n != n/2*2), "ODD", parts(n*10000)...)
		calls(t, fault(api.CodeArg), "ODD", parts(n*10000+5000)...)
	}
	calls(t, truth(true), "ODD", parts(greatestWhole)...)
	calls(t, truth(true), "ODD", parts(-greatestWhole)...)
	calls(t, truth(false), "ODD", parts(greatestWhole-10000)...)
	calls(t, fault(api.CodeArg), "ODD", parts(greatest)...)
	calls(t, fault(api.CodeArg), "ODD", parts(1)...)
}

// P8.2: the order of what is wrong.
func TestOrder(t *testing.T) {
	arg, div, miss, typ := fault(api.CodeArg), fault(api.CodeDiv), fault(api.CodeMiss), fault(api.CodeType)
	wrong := api.Value{Num: 1}
	// A name or arguments that are not taken, ahead of Faults.
	calls(t, arg, "NONE", row(div)...)
	calls(t, arg, "ABS", row(div, div)...)
	calls(t, arg, "MOD", row(div)...)
	calls(t, arg, "ABS", api.Arg{Many: true, Value: div})
	// An argument that may not be, also behind a Fault.
	calls(t, arg, "MOD", row(div, wrong)...)
	calls(t, arg, "MOD", row(wrong, div)...)
	calls(t, arg, "MOD", row(text("x"), wrong)...)
	calls(t, arg, "CLAMP", row(div, number(0), number(math.MinInt64))...)
	calls(t, arg, "GCD", append(row(div), api.Arg{Value: number(10000), Rect: api.Rect{Top: 1}})...)
	calls(t, arg, "GCD", append(row(div), api.Arg{Value: number(10000), Entries: []api.Entry{{}}})...)
	calls(t, arg, "GCD", append(row(div), api.Arg{Many: true, Rect: api.Rect{Top: 1, Left: 1, Bottom: 2, Right: 2}})...)
	calls(t, arg, "GCD", append(slices.Repeat(row(div), 15), api.Arg{Value: wrong})...)
	// The first Fault, also behind a text that is no number, and ahead of what the table says.
	calls(t, div, "MOD", row(div, miss)...)
	calls(t, miss, "MOD", row(miss, div)...)
	calls(t, miss, "MOD", row(text("x"), miss)...)
	calls(t, miss, "CLAMP", row(text("x"), miss, div)...)
	calls(t, miss, "CLAMP", row(miss, text("x"), text("x"))...)
	calls(t, div, "FLOOR", row(div, number(0))...)
	calls(t, div, "FACT", row(div)...)
	calls(t, miss, "ROUND", row(number(0), miss)...)
	calls(t, miss, "GCD", append(slices.Repeat(parts(5000), 15), api.Arg{Value: miss})...)
	// A text, ahead of what the table says.
	calls(t, typ, "MOD", row(text("x"), number(0))...)
	calls(t, typ, "FLOOR", row(text("1"), number(-1))...)
	calls(t, typ, "ROUND", row(text("1"), number(5000))...)
	calls(t, typ, "POWER", row(text("1"), number(5000))...)
	calls(t, typ, "CLAMP", row(text("1"), number(2), number(1))...)
	calls(t, typ, "GCD", row(number(5000), text(""))...)
	calls(t, typ, "LCM", row(number(0), number(5000), text(""))...)
	for c := api.CodeCycle; c <= api.CodeArg; c++ {
		calls(t, fault(c), "ABS", row(fault(c))...)
	}
}

// P8.2: all rows of arguments of up to three of each kind, those that may not be among them, held against the model.
func TestAllKinds(t *testing.T) {
	set := append(kinds(), wrongArgs()...)
	names := []string{"NONE", ""}
	for name := range counts() {
		names = append(names, name)
	}
	for _, name := range names {
		models(t, name, nil)
		for _, a := range set {
			models(t, name, []api.Arg{a})
			for _, b := range set {
				models(t, name, []api.Arg{a, b})
			}
		}
	}
	few := append(kinds()[:10], kinds()[14:]...)
	few = append(few, wrongArgs()[:3]...)
	few = append(few, wrongArgs()[20:]...)
	for _, name := range []string{"CLAMP", "GCD", "LCM", "ROUND"} {
		for _, a := range few {
			for _, b := range few {
				for _, c := range few {
					models(t, name, []api.Arg{a, b, c})
				}
			}
		}
	}
}

// P8.2: an argument that may not be is refused at each place.
func TestWrongArgs(t *testing.T) {
	for name, count := range counts() {
		for n := count[0]; n <= count[1]; n++ {
			for i := range n {
				for _, a := range wrongArgs() {
					args := slices.Repeat(parts(10000), n)
					args[i] = a
					calls(t, fault(api.CodeArg), name, args...)
				}
			}
		}
	}
}
