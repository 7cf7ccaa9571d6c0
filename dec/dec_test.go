package dec

import (
	"math"
	"math/big"
	"testing"

	"oriel/api"
)

func TestMay(t *testing.T) {
	for _, x := range edges() {
		if !May(x) {
			t.Errorf("May(%d) = false", x)
		}
	}
	if May(least) {
		t.Error("May(-2^63) = true")
	}
}

// What may not be is told ahead of all else: ahead of a 0 that divides, of an exponent, of a root.
func TestMayNotBe(t *testing.T) {
	two := map[string]func(a, b int64) (int64, api.Code){"Add": Add, "Sub": Sub, "Mul": Mul, "Div": Div, "Mod": Mod}
	for name, f := range two {
		for _, other := range append(edges(), least) {
			x, code := f(least, other)
			same(t, name, []int64{least, other}, x, code, 0, api.CodeNum)
			x, code = f(other, least)
			same(t, name, []int64{other, least}, x, code, 0, api.CodeNum)
		}
	}
	one := map[string]func(x int64) (int64, api.Code){"Neg": Neg, "Floor": Floor, "Sqrt": Sqrt}
	for name, f := range one {
		x, code := f(least)
		same(t, name, []int64{least}, x, code, 0, api.CodeNum)
	}
	for _, n := range []int{math.MinInt, -65, -64, -16, -15, -1, 0, 1, 3, 4, 64, 65, math.MaxInt} {
		x, code := Round(least, n)
		same(t, "Round", []int64{least, int64(n)}, x, code, 0, api.CodeNum)
		x, code = Power(least, n)
		same(t, "Power", []int64{least, int64(n)}, x, code, 0, api.CodeNum)
	}
	if n, ok := Whole(least); n != 0 || ok {
		t.Errorf("Whole(-2^63) = %d, %v", n, ok)
	}
	if s := Print(least); s != "" {
		t.Errorf("Print(-2^63) = %q", s)
	}
}

func TestNeg(t *testing.T) {
	for _, c := range [][2]int64{{0, 0}, {1, -1}, {-15000, 15000}, {most, -most}, {-most, most}} {
		x, code := Neg(c[0])
		same(t, "Neg", c[:1], x, code, c[1], api.CodeNone)
	}
}

func TestOfTwo(t *testing.T) {
	for _, c := range []struct {
		name string
		f    func(a, b int64) (int64, api.Code)
		a, b int64
		x    int64
		code api.Code
	}{
		{"Add", Add, 15000, -5000, 10000, 0}, {"Add", Add, most, 1, 0, api.CodeNum}, {"Add", Add, most, most, 0, api.CodeNum},
		{"Add", Add, -most, -1, 0, api.CodeNum}, {"Add", Add, -most, -most, 0, api.CodeNum}, {"Add", Add, most, -most, 0, 0},
		{"Add", Add, most - 1, 1, most, 0}, {"Add", Add, 1 - most, -1, -most, 0}, {"Add", Add, -1 << 62, -1 << 62, 0, api.CodeNum},
		{"Sub", Sub, 1, 2, -1, 0}, {"Sub", Sub, -most, most, 0, api.CodeNum}, {"Sub", Sub, -most, 1, 0, api.CodeNum},
		{"Sub", Sub, most, -1, 0, api.CodeNum}, {"Sub", Sub, 0, most, -most, 0}, {"Sub", Sub, most, most, 0, 0},
		{"Mul", Mul, 15000, 15000, 22500, 0}, {"Mul", Mul, 1, 5000, 1, 0}, {"Mul", Mul, -1, 5000, -1, 0}, {"Mul", Mul, 1, 4999, 0, 0},
		{"Mul", Mul, -1, 4999, 0, 0}, {"Mul", Mul, 1, -5000, -1, 0}, {"Mul", Mul, -1, -5000, 1, 0}, {"Mul", Mul, 3, 5000, 2, 0},
		{"Mul", Mul, most, 10000, most, 0}, {"Mul", Mul, most, -10000, -most, 0}, {"Mul", Mul, most, 10001, 0, api.CodeNum},
		{"Mul", Mul, most, most, 0, api.CodeNum}, {"Mul", Mul, -most, most, 0, api.CodeNum}, {"Mul", Mul, 0, -most, 0, 0},
		{"Mul", Mul, most, 20000, 0, api.CodeNum}, {"Mul", Mul, 1 << 62, 20000, 0, api.CodeNum}, {"Mul", Mul, -1 << 62, 20000, 0, api.CodeNum},
		// Quotients just below 2^64, which would be 0 if they were rounded within a word.
		{"Mul", Mul, 30003, 6148299861250392166, 0, api.CodeNum}, {"Div", Div, 422430439287948732, 229, 0, api.CodeNum}, {"Div", Div, -422430439287948732, 229, 0, api.CodeNum},
		{"Div", Div, 10000, 30000, 3333, 0}, {"Div", Div, 20000, 30000, 6667, 0}, {"Div", Div, 1, 20000, 1, 0}, {"Div", Div, -1, 20000, -1, 0},
		{"Div", Div, 1, -20000, -1, 0}, {"Div", Div, 1, 20001, 0, 0}, {"Div", Div, -1, 20001, 0, 0}, {"Div", Div, 1, 19999, 1, 0},
		{"Div", Div, 5, 0, 0, api.CodeDiv}, {"Div", Div, 0, 0, 0, api.CodeDiv}, {"Div", Div, 0, -5, 0, 0}, {"Div", Div, most, 1, 0, api.CodeNum},
		{"Div", Div, most, -1, 0, api.CodeNum}, {"Div", Div, most, most, 10000, 0}, {"Div", Div, most, 10000, most, 0}, {"Div", Div, -most, 9999, 0, api.CodeNum},
		{"Div", Div, 1 << 62, 5000, 0, api.CodeNum}, {"Div", Div, 922337203685477, 1, 9223372036854770000, 0}, {"Div", Div, 922337203685478, 1, 0, api.CodeNum},
		{"Mod", Mod, 75000, 20000, 15000, 0}, {"Mod", Mod, -75000, 20000, 5000, 0}, {"Mod", Mod, 75000, -20000, -5000, 0},
		{"Mod", Mod, -75000, -20000, -15000, 0}, {"Mod", Mod, 1, 0, 0, api.CodeDiv}, {"Mod", Mod, 0, 0, 0, api.CodeDiv}, {"Mod", Mod, 60000, -20000, 0, 0},
		{"Mod", Mod, -60000, 20000, 0, 0}, {"Mod", Mod, 0, -3, 0, 0}, {"Mod", Mod, -1, most, most - 1, 0}, {"Mod", Mod, 1, -most, 1 - most, 0}, {"Mod", Mod, -most, -1, 0, 0},
	} {
		x, code := c.f(c.a, c.b)
		same(t, c.name, []int64{c.a, c.b}, x, code, c.x, c.code)
	}
}

// Each of two numbers is held against the exact value.
func TestOfTwoExact(t *testing.T) {
	list := withMore(150)
	for _, a := range list {
		for _, b := range list {
			if !May(a) || !May(b) {
				continue
			}
			args := []int64{a, b}
			x, code := Add(a, b)
			wantX, want := rounded(new(big.Rat).Add(exact(a), exact(b)))
			same(t, "Add", args, x, code, wantX, want)
			x, code = Sub(a, b)
			wantX, want = rounded(new(big.Rat).Sub(exact(a), exact(b)))
			same(t, "Sub", args, x, code, wantX, want)
			x, code = Mul(a, b)
			wantX, want = rounded(new(big.Rat).Mul(exact(a), exact(b)))
			same(t, "Mul", args, x, code, wantX, want)
			if b == 0 {
				continue
			}
			quotient := new(big.Rat).Quo(exact(a), exact(b))
			x, code = Div(a, b)
			wantX, want = rounded(quotient)
			same(t, "Div", args, x, code, wantX, want)
			x, code = Mod(a, b)
			taken := new(big.Rat).Mul(exact(b), new(big.Rat).SetInt(floored(quotient)))
			wantX, want = rounded(taken.Sub(exact(a), taken))
			same(t, "Mod", args, x, code, wantX, want)
		}
	}
}

func TestOrderOfTwo(t *testing.T) {
	for _, a := range edges() {
		for _, b := range edges() {
			x, code := Add(b, a)
			wantX, want := Add(a, b)
			same(t, "Add", []int64{b, a}, x, code, wantX, want)
			x, code = Mul(b, a)
			wantX, want = Mul(a, b)
			same(t, "Mul", []int64{b, a}, x, code, wantX, want)
			other, _ := Neg(b)
			x, code = Add(a, other)
			wantX, want = Sub(a, b)
			same(t, "Add", []int64{a, other}, x, code, wantX, want)
		}
	}
}

func TestRound(t *testing.T) {
	for _, c := range []struct {
		x      int64
		places int
		y      int64
		code   api.Code
	}{
		{15000, 0, 20000, 0}, {-15000, 0, -20000, 0}, {14999, 0, 10000, 0}, {-14999, 0, -10000, 0}, {5000, 0, 10000, 0}, {-5000, 0, -10000, 0},
		{12345, 2, 12300, 0}, {12350, 2, 12400, 0}, {-12350, 2, -12400, 0}, {12345, 3, 12350, 0}, {12344, 3, 12340, 0}, {-12345, 3, -12350, 0},
		{12345, 1, 12000, 0}, {12500, 1, 13000, 0}, {12345, 4, 12345, 0}, {7, 9, 7, 0}, {most, 4, most, 0}, {-most, math.MaxInt, -most, 0},
		{50000, -1, 100000, 0}, {-50000, -1, -100000, 0}, {49999, -1, 0, 0}, {0, 0, 0, 0}, {0, -15, 0, 0}, {0, math.MinInt, 0, 0},
		{most, 3, 0, api.CodeNum}, {-most, 3, 0, api.CodeNum}, {most, 2, 9223372036854775800, 0}, {most, 1, 0, api.CodeNum}, {most, 0, 0, api.CodeNum},
		{most, -14, 9e18, 0}, {-most, -14, -9e18, 0}, {5e17, -14, 1e18, 0}, {5e17 - 1, -14, 0, 0},
		{most, -15, 0, api.CodeNum}, {-most, -15, 0, api.CodeNum}, {5e18, -15, 0, api.CodeNum}, {5e18 - 1, -15, 0, 0}, {-5e18, -15, 0, api.CodeNum}, {1 - 5e18, -15, 0, 0},
		{most, -16, 0, 0}, {-most, -16, 0, 0}, {most, -17, 0, 0}, {most, -100, 0, 0}, {most, math.MinInt, 0, 0}, {most, math.MinInt + 4, 0, 0},
	} {
		y, code := Round(c.x, c.places)
		same(t, "Round", []int64{c.x, int64(c.places)}, y, code, c.y, c.code)
	}
}

// The nearest multiple is found exactly; what is told is told again by the same places.
func TestRoundExact(t *testing.T) {
	for _, x := range withMore(400) {
		for places := -40; places <= 20 && May(x); places++ {
			args := []int64{x, int64(places)}
			step := tenTo(-places)
			count := nearby(new(big.Rat).Quo(exact(x), step))
			wantX, want := rounded(new(big.Rat).Mul(step, new(big.Rat).SetInt(count)))
			if places > 3 {
				wantX, want = x, api.CodeNone
			}
			y, code := Round(x, places)
			same(t, "Round", args, y, code, wantX, want)
			again, code := Round(y, places)
			same(t, "Round", []int64{y, int64(places)}, again, code, y, api.CodeNone)
		}
	}
}

func TestFloor(t *testing.T) {
	for _, c := range [][2]int64{
		{-1, -10000}, {19999, 10000}, {20000, 20000}, {-20000, -20000}, {-20001, -30000}, {0, 0}, {1, 0}, {9999, 0},
		{most, 9223372036854770000}, {-9223372036854770000, -9223372036854770000}, {-9223372036854769999, -9223372036854770000},
	} {
		x, code := Floor(c[0])
		same(t, "Floor", c[:1], x, code, c[1], api.CodeNone)
	}
	for _, x := range []int64{-most, -9223372036854770001, -9223372036854775000} {
		y, code := Floor(x)
		same(t, "Floor", []int64{x}, y, code, 0, api.CodeNum)
	}
	for _, x := range withMore(2000) {
		if !May(x) {
			continue
		}
		y, code := Floor(x)
		wantX, want := rounded(new(big.Rat).SetInt(floored(exact(x))))
		same(t, "Floor", []int64{x}, y, code, wantX, want)
	}
}

func TestWhole(t *testing.T) {
	for _, c := range [][2]int64{
		{150000, 15}, {0, 0}, {10000, 1}, {-10000, -1}, {-150000, -15}, {9223372036854770000, 922337203685477}, {-9223372036854770000, -922337203685477},
	} {
		if n, ok := Whole(c[0]); n != c[1] || !ok {
			t.Errorf("Whole(%d) = %d, %v", c[0], n, ok)
		}
	}
	for _, x := range []int64{1, -1, 9999, 10001, -9999, -10001, 15000, most, -most, least} {
		if n, ok := Whole(x); n != 0 || ok {
			t.Errorf("Whole(%d) = %d, %v", x, n, ok)
		}
	}
}
