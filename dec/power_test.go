package dec

import (
	"math"
	"math/big"
	"testing"

	"oriel/api"
)

func TestPower(t *testing.T) {
	for _, c := range []struct {
		x    int64
		n    int
		y    int64
		code api.Code
	}{
		{15000, 2, 22500, 0}, {20000, -1, 5000, 0}, {30000, -2, 1111, 0}, {-30000, -1, -3333, 0}, {15000, -1, 6667, 0}, {-15000, -1, -6667, 0},
		{0, 0, 10000, 0}, {most, 0, 10000, 0}, {-most, 0, 10000, 0}, {0, 1, 0, 0}, {0, 64, 0, 0}, {0, -1, 0, api.CodeDiv}, {0, -64, 0, api.CodeDiv},
		{0, 65, 0, api.CodeArg}, {0, -65, 0, api.CodeArg}, {10000, 65, 0, api.CodeArg}, {10000, -65, 0, api.CodeArg},
		{5, math.MaxInt, 0, api.CodeArg}, {5, math.MinInt, 0, api.CodeArg}, {10000, 64, 10000, 0}, {10000, -64, 10000, 0},
		{-10000, 64, 10000, 0}, {-10000, -64, 10000, 0}, {-10000, 63, -10000, 0}, {-10000, -63, -10000, 0}, {-20000, 3, -80000, 0},
		{-1, 3, 0, 0}, {1, 64, 0, 0}, {1, -64, 0, api.CodeNum}, {-1, -3, -1e16, 0}, {1, -3, 1e16, 0}, {1, -4, 0, api.CodeNum}, {most, 1, most, 0}, {-most, 1, -most, 0},
		{most, -1, 0, 0}, {most, 2, 0, api.CodeNum}, {most, 64, 0, api.CodeNum}, {-most, 63, 0, api.CodeNum}, {most, -64, 0, 0},
		{100000, 14, 1e18, 0}, {100000, 15, 0, api.CodeNum}, {-100000, 15, 0, api.CodeNum}, {20000, 49, 5629499534213120000, 0}, {20000, 50, 0, api.CodeNum}, {20000, 64, 0, api.CodeNum},
		{5000, 13, 1, 0}, {5000, 14, 1, 0}, {5000, 15, 0, 0}, {100, 2, 1, 0}, {50, 2, 0, 0}, {5000, 2, 2500, 0}, {500, 3, 1, 0}, {-500, 3, -1, 0},
		{500000, -3, 0, 0}, {200000000, -1, 1, 0}, {-200000000, -1, -1, 0}, {200000001, -1, 0, 0}, {199999999, -1, 1, 0}, {11000, 64, 4457916, 0},
	} {
		y, code := Power(c.x, c.n)
		same(t, "Power", []int64{c.x, int64(c.n)}, y, code, c.y, c.code)
	}
}

// Each power is held against the exact one: so it is rounded once.
func TestPowerExact(t *testing.T) {
	list := withMore(150)
	for x := int64(2000); x < 40000; x += 777 {
		list = append(list, x, -x)
	}
	for _, x := range list {
		if !May(x) || x == 0 {
			continue
		}
		for n := -66; n <= 66; n++ {
			wantX, want := int64(0), api.CodeArg
			if n >= -64 && n <= 64 {
				wantX, want = rounded(raised(exact(x), n))
			}
			y, code := Power(x, n)
			same(t, "Power", []int64{x, int64(n)}, y, code, wantX, want)
		}
	}
}

// raised is an exact value that is not 0 to the power of n.
func raised(v *big.Rat, n int) *big.Rat {
	size := big.NewInt(int64(max(n, -n)))
	top := new(big.Int).Exp(v.Num(), size, nil)
	bottom := new(big.Int).Exp(v.Denom(), size, nil)
	if n < 0 {
		top, bottom = bottom, top
	}
	return new(big.Rat).SetFrac(top, bottom)
}

func TestSqrt(t *testing.T) {
	for _, c := range []struct {
		x, y int64
		code api.Code
	}{
		{20000, 14142, 0}, {0, 0, 0}, {1, 100, 0}, {2, 141, 0}, {3, 173, 0}, {10000, 10000, 0}, {90000, 30000, 0}, {22500, 15000, 0}, {9999, 9999, 0}, {30000, 17321, 0},
		{most, 303700049998, 0}, {most - 1, 303700049998, 0}, {-1, 0, api.CodeArg}, {-10000, 0, api.CodeArg}, {-most, 0, api.CodeArg},
	} {
		y, code := Sqrt(c.x)
		same(t, "Sqrt", []int64{c.x}, y, code, c.y, c.code)
	}
}

// The nearest root: less a half it is not above the exact root, and with a half it is above it.
func TestSqrtExact(t *testing.T) {
	list := withMore(5000)
	for x := range int64(20000) {
		list = append(list, x)
	}
	for root := int64(303700049000); root < 303700049990; root++ {
		square := new(big.Int).Mul(big.NewInt(root), big.NewInt(root+1))
		list = append(list, square.Div(square, big.NewInt(api.Scale)).Int64())
	}
	for _, x := range list {
		if x < 0 {
			continue
		}
		y, code := Sqrt(x)
		four := new(big.Int).Mul(big.NewInt(x), big.NewInt(4*api.Scale))
		under := new(big.Int).Exp(big.NewInt(max(2*y-1, 0)), big.NewInt(2), nil)
		over := new(big.Int).Exp(big.NewInt(2*y+1), big.NewInt(2), nil)
		if code != api.CodeNone || under.Cmp(four) > 0 || over.Cmp(four) <= 0 {
			t.Errorf("Sqrt(%d) = %d, code %d", x, y, code)
		}
	}
}
