package nums

import (
	"math"
	"math/rand"
	"slices"
	"strings"
	"testing"

	"oriel/api"
)

// The chapter's examples.
func TestExamples(t *testing.T) {
	arg, typ, num, div := fault(api.CodeArg), fault(api.CodeType), fault(api.CodeNum), fault(api.CodeDiv)
	for _, c := range []struct {
		name string
		args []api.Arg
		want api.Value
	}{
		{"ABS", parts(-15000), number(15000)}, {"SIGN", parts(-20000), number(-10000)}, {"INT", parts(-5000), number(-10000)},
		{"TRUNC", parts(-12900, 10000), number(-12000)}, {"TRUNC", parts(1270000, -10000), number(1200000)}, {"TRUNC", parts(90000, -150000), number(0)},
		{"ROUND", parts(25000), number(30000)}, {"ROUND", parts(-500, 10000), number(-1000)}, {"ROUND", parts(10000, 5000), arg},
		{"FLOOR", parts(75000, 20000), number(60000)}, {"FLOOR", parts(-10000, 30000), number(-30000)}, {"CEIL", parts(75000, 20000), number(80000)},
		{"CEIL", parts(-10000, 30000), number(0)}, {"CEIL", parts(60000, 30000), number(60000)}, {"FLOOR", parts(10000, 0), arg},
		{"MOD", parts(-75000, 20000), number(5000)}, {"QUOT", parts(-75000, 20000), number(-30000)}, {"QUOT", parts(10000, 0), div},
		{"POWER", parts(20000, 100000), number(10240000)}, {"POWER", parts(20000, 5000), arg}, {"POWER", parts(20000, 650000), arg},
		{"GCD", parts(120000, -180000, 0), number(60000)}, {"GCD", parts(0), number(0)}, {"GCD", parts(15000), arg}, {"LCM", parts(40000, 60000), number(120000)}, {"LCM", parts(40000, 0), number(0)},
		{"FACT", parts(50000), number(1200000)}, {"FACT", parts(0), number(10000)}, {"FACT", parts(180000), num}, {"FACT", parts(-10000), arg},
		{"CLAMP", parts(50000, 10000, 30000), number(30000)}, {"CLAMP", parts(20000, 10000, 30000), number(20000)}, {"CLAMP", parts(20000, 30000, 10000), arg},
		{"ODD", parts(30000), truth(true)}, {"ODD", parts(-20000), truth(false)},
		{"ABS", row(text("x")), typ}, {"ABS", row(truth(true)), number(10000)}, {"ABS", row(api.Value{}), number(0)}, {"ROUND", row(text("x"), div), div},
		{"ABS", nil, arg}, {"ABS", parts(10000, 20000), arg}, {"NONE", parts(10000), arg},
	} {
		calls(t, c.want, c.name, c.args...)
	}
}

// otherNames are none of the table's.
func otherNames() []string {
	list := []string{"", " ", "NONE", "SUM", "LEN", "IF", "AND", "MIN", "MAX", "A", "TRUE", "ASK", "ABS ", " ABS", "ABS\x00", "AB", "ABSS", "abs", "Abs", "SQR", "ROUNDS", "\xff", "ÁBS", "0", strings.Repeat("ABS", 1<<16)}
	for name := range counts() {
		list = append(list, strings.ToLower(name), name+name, name+"1", name[1:], name[:len(name)-1])
	}
	return list
}

// P8.1: just the names of the table are known.
func TestKnown(t *testing.T) {
	if len(counts()) != 16 {
		t.Fatal("the table has 16 names")
	}
	for name := range counts() {
		if !Known(name) {
			t.Errorf("%s is not known", name)
		}
	}
	for _, name := range otherNames() {
		if Known(name) {
			t.Errorf("%.20q is known", name)
		}
	}
}

// P8.1: so many arguments are taken, and no rectangle among them.
func TestTakes(t *testing.T) {
	for name, count := range counts() {
		for n := range 40 {
			rects := make([]bool, n)
			if Takes(name, rects) != (n >= count[0] && n <= count[1]) {
				t.Errorf("Takes(%s, %d arguments) is wrong", name, n)
			}
			for i := range rects {
				rects[i] = true
				if Takes(name, rects) {
					t.Errorf("Takes(%s, a rectangle at %d of %d)", name, i, n)
				}
				rects[i] = false
			}
			for i := range rects {
				rects[i] = true
			}
			if n > 0 && Takes(name, rects) {
				t.Errorf("Takes(%s, %d rectangles)", name, n)
			}
		}
		if Takes(name, nil) || Takes(name, []bool{}) || Takes(name, make([]bool, 1<<20)) {
			t.Errorf("Takes(%s, none or very many)", name)
		}
	}
	for _, name := range otherNames() {
		for n := range 18 {
			if Takes(name, make([]bool, n)) {
				t.Errorf("Takes(%.20q, %d arguments)", name, n)
			}
		}
	}
}

// P8.2: a call refuses what Takes refuses, whatever stands in the arguments.
func TestCallTakes(t *testing.T) {
	names := otherNames()
	for name := range counts() {
		names = append(names, name)
	}
	for _, name := range names {
		for n := range 40 {
			for _, a := range []api.Arg{{}, {Value: number(10000)}, {Value: fault(api.CodeDiv)}, {Value: text("x")}} {
				args := slices.Repeat([]api.Arg{a}, n)
				v := Call(name, args, 8)
				if !Takes(name, make([]bool, n)) && v != fault(api.CodeArg) {
					t.Errorf("%.20q(%d times %s) = %s", name, n, show(a.Value), show(v))
				}
			}
		}
		calls(t, fault(api.CodeArg), name, make([]api.Arg, 1<<16)...)
	}
}

// P8.2 and each row of the table: all numbers and all pairs of them, held against the model.
func TestNumbers(t *testing.T) {
	list := someNumbers()
	for name, count := range counts() {
		for _, x := range list {
			models(t, name, parts(x))
			if count[0] > 2 || count[1] < 2 {
				continue
			}
			for _, y := range list {
				models(t, name, parts(x, y))
			}
		}
	}
}

// The row CLAMP: three numbers in all orders.
func TestClamp(t *testing.T) {
	list := []int64{-math.MaxInt64, 1 - math.MaxInt64, -20000, -10001, -10000, -1, 0, 1, 9999, 10000, 30000, math.MaxInt64 - 1, math.MaxInt64}
	for _, x := range list {
		for _, low := range list {
			for _, high := range list {
				models(t, "CLAMP", parts(x, low, high))
			}
		}
	}
	calls(t, number(10000), "CLAMP", parts(10000, 10000, 10000)...)
	calls(t, number(10000), "CLAMP", parts(0, 10000, 10000)...)
	calls(t, fault(api.CodeArg), "CLAMP", parts(0, 10001, 10000)...)
}

// P8.2 and each row of the table: small numbers close to one another: quarters, whole ones, parts.
func TestSmall(t *testing.T) {
	for name, count := range counts() {
		if count[0] > 2 || count[1] < 2 {
			continue
		}
		for x := int64(-40); x <= 40; x++ {
			for y := int64(-40); y <= 40; y++ {
				models(t, name, parts(x*2500, y*2500))
				models(t, name, parts(x*10000, y*10000))
				models(t, name, parts(x, y))
				models(t, name, parts(x*333, y*10000))
			}
		}
	}
}

// P8.2 and each row of the table: random numbers of all sizes.
func TestRandom(t *testing.T) {
	rnd := rand.New(rand.NewSource(8))
	for name, count := range counts() {
		for range 5000 {
			var args []api.Arg
			for range count[0] + rnd.Intn(count[1]-count[0]+1) {
				args = append(args, parts(random(rnd))...)
			}
			models(t, name, args)
		}
	}
}

// The rows GCD and LCM: many whole numbers, small and great, 0 among them or not.
func TestManyWhole(t *testing.T) {
	rnd := rand.New(rand.NewSource(81))
	for range 20000 {
		least, most := rnd.Int63n(3), 1+rnd.Int63n(int64(1)<<rnd.Intn(40))
		scale := 1 + rnd.Int63n(20)
		var args []api.Arg
		for range 1 + rnd.Intn(17) {
			x := (least + rnd.Int63n(most)) * scale
			if rnd.Intn(2) == 0 {
				x = -x
			}
			args = append(args, parts(x%922337203685477*10000)...)
		}
		models(t, "GCD", args)
		models(t, "LCM", args)
	}
}

// The rows GCD and LCM: small numbers, by trying all that may divide them.
func TestDividesTried(t *testing.T) {
	try := func(a, b, c int64) (divisor, multiple int64) {
		for d := int64(1); d <= 12; d++ {
			if a%d == 0 && b%d == 0 && c%d == 0 && (a != 0 || b != 0 || c != 0) {
				divisor = d
			}
		}
		for m := int64(1); a != 0 && b != 0 && c != 0; m++ {
			if m%a == 0 && m%b == 0 && m%c == 0 {
				return divisor, m
			}
		}
		return divisor, 0
	}
	for a := int64(-12); a <= 12; a++ {
		for b := int64(-12); b <= 12; b++ {
			for c := int64(-12); c <= 12; c++ {
				divisor, multiple := try(a, b, c)
				calls(t, number(divisor*10000), "GCD", parts(a*10000, b*10000, c*10000)...)
				calls(t, number(multiple*10000), "LCM", parts(a*10000, b*10000, c*10000)...)
			}
		}
	}
}

// P8.2: truths and Blank are taken for numbers, texts are not, also those that read like numbers.
func TestKinds(t *testing.T) {
	yes, no, blank, typ := truth(true), truth(false), api.Value{}, fault(api.CodeType)
	calls(t, number(10000), "ABS", row(yes)...)
	calls(t, number(0), "ABS", row(no)...)
	calls(t, number(10000), "SIGN", row(yes)...)
	calls(t, number(10000), "INT", row(yes)...)
	calls(t, number(12000), "TRUNC", row(number(12345), yes)...)
	calls(t, number(10000), "TRUNC", row(number(12345), blank)...)
	calls(t, number(12000), "ROUND", row(number(12345), yes)...)
	calls(t, number(10000), "ROUND", row(number(12345), no)...)
	calls(t, number(10000), "FLOOR", row(number(19999), yes)...)
	calls(t, fault(api.CodeArg), "FLOOR", row(number(19999), blank)...)
	calls(t, number(20000), "CEIL", row(number(19999), yes)...)
	calls(t, number(9999), "MOD", row(number(19999), yes)...)
	calls(t, fault(api.CodeDiv), "MOD", row(number(19999), blank)...)
	calls(t, number(10000), "QUOT", row(number(19999), yes)...)
	calls(t, fault(api.CodeDiv), "QUOT", row(yes, no)...)
	calls(t, number(10000), "POWER", row(blank, no)...)
	calls(t, number(19999), "POWER", row(number(19999), yes)...)
	calls(t, number(10000), "SQRT", row(yes)...)
	calls(t, number(0), "SQRT", row(blank)...)
	calls(t, number(10000), "GCD", row(blank, yes, number(40000))...)
	calls(t, number(40000), "LCM", row(yes, number(40000))...)
	calls(t, number(0), "LCM", row(blank, yes)...)
	calls(t, number(10000), "FACT", row(blank)...)
	calls(t, number(10000), "FACT", row(yes)...)
	calls(t, number(10000), "CLAMP", row(number(20000), blank, yes)...)
	calls(t, truth(true), "ODD", row(yes)...)
	calls(t, truth(false), "ODD", row(blank)...)
	for name, count := range counts() {
		for _, s := range []string{"", "x", "1", "-1.5", "0", "TRUE", "#DIV!", strings.Repeat("9", 2000)} {
			for n := count[0]; n <= count[1]; n++ {
				for i := range n {
					args := slices.Repeat(parts(10000), n)
					args[i].Value = text(s)
					calls(t, typ, name, args...)
				}
			}
		}
	}
}

// P8.2: the text bound does not matter.
func TestTextBound(t *testing.T) {
	for name, count := range counts() {
		for _, args := range [][]api.Arg{nil, slices.Repeat(parts(20000), count[0]), slices.Repeat(row(text("x")), count[0]), slices.Repeat(row(fault(api.CodeDiv)), count[0]), slices.Repeat([]api.Arg{{Many: true}}, count[0])} {
			want := model(name, args)
			for _, bound := range []int{math.MinInt, -1, 0, 1, 2, 8, 1023, 1024, 1025, math.MaxInt} {
				if v := Call(name, args, bound); v != want {
					t.Errorf("%s(%s) = %s with the bound %d; want %s", name, brief(args), show(v), bound, show(want))
				}
			}
		}
	}
}
