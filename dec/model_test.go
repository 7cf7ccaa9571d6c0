package dec

import (
	"math"
	"math/big"
	"math/rand/v2"
	"testing"

	"oriel/api"
)

const (
	most  = math.MaxInt64
	least = math.MinInt64
)

// edges are numbers where something changes: signs, halves, wholes, words, the ends.
func edges() []int64 {
	list := []int64{0}
	for _, x := range []int64{
		1, 2, 3, 4, 5, 9, 10, 14, 15, 49, 50, 51, 99, 100, 4999, 5000, 5001, 9999, 10000, 10001, 12345, 12350,
		14999, 15000, 15001, 19999, 20000, 20001, 25000, 30000, 50000, 75000, 99999, 100000, 150000, 1234567,
		1 << 31, 1<<32 - 1, 1 << 32, 1<<32 + 1, 303700049997, 303700049998, 3037000499976, 1 << 52, 1 << 53,
		1e17, 1e18, 5e18 - 1, 5e18, 5e18 + 1, 9e18, 1 << 62, 922337203685477, 922337203685478,
		most / 2, most/2 + 1, most / 10000, most/10000*10000 - 1, most / 10000 * 10000, most/10000*10000 + 1,
		most/10000*10000 + 5000, most - 10000, most - 5000, most - 7, most - 3, most - 2, most - 1, most,
	} {
		list = append(list, x, -x)
	}
	return list
}

// withMore are the edges, the number that may not be, and numbers of all sizes, the same ones each time.
func withMore(count int) []int64 {
	list := append(edges(), least)
	source := rand.New(rand.NewPCG(1, uint64(count)))
	for range count {
		list = append(list, int64(source.Uint64())>>source.IntN(64))
	}
	return list
}

// exact is the number that so many parts are.
func exact(x int64) *big.Rat { return big.NewRat(x, api.Scale) }

// nearby is the whole number that is nearest to an exact value; of two the one further from nought.
func nearby(v *big.Rat) *big.Int {
	twice := new(big.Int).Mul(new(big.Int).Abs(v.Num()), big.NewInt(2))
	twice.Add(twice, v.Denom())
	whole := twice.Quo(twice, new(big.Int).Mul(v.Denom(), big.NewInt(2)))
	if v.Sign() < 0 {
		whole.Neg(whole)
	}
	return whole
}

// rounded is what the chapter says of an exact value.
func rounded(v *big.Rat) (int64, api.Code) {
	return held(nearby(new(big.Rat).Mul(v, big.NewRat(api.Scale, 1))))
}

// held is a number of parts, if it may be.
func held(parts *big.Int) (int64, api.Code) {
	if !parts.IsInt64() || parts.Int64() == least {
		return 0, api.CodeNum
	}
	return parts.Int64(), api.CodeNone
}

// floored is the greatest whole number that is not above an exact value.
func floored(v *big.Rat) *big.Int { return new(big.Int).Div(v.Num(), v.Denom()) }

// tenTo is 10 to the power of n.
func tenTo(n int) *big.Rat {
	size := max(n, -n)
	power := new(big.Int).Exp(big.NewInt(10), big.NewInt(int64(size)), nil)
	v := new(big.Rat).SetInt(power)
	if n < 0 {
		v.Inv(v)
	}
	return v
}

// same ends the test, if a call was not answered as it should be.
func same(t *testing.T, call string, args []int64, x int64, code api.Code, wantX int64, want api.Code) {
	t.Helper()
	if x != wantX || code != want {
		t.Fatalf("%s%v = %d, code %d; want %d, code %d", call, args, x, code, wantX, want)
	}
}
