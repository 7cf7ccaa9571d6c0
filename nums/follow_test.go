package nums

import (
	"math/rand"
	"reflect"
	"slices"
	"sync"
	"testing"

	"oriel/api"
	"oriel/dec"
)

// asked is what a function answers of numbers: parts and a code.
func asked(t *testing.T, name string, x ...int64) (int64, api.Code) {
	t.Helper()
	v := Call(name, parts(x...), 0)
	if v.Tag != api.Number && v.Tag != api.Fault {
		t.Fatalf("%s(%d) = %s", name, x, show(v))
	}
	return v.Num, v.Code
}

// What follows: QUOT times b and MOD make a, where neither number is below 0.
func TestQuotAndMod(t *testing.T) {
	rnd := rand.New(rand.NewSource(82))
	list := someNumbers()
	for range 3000 {
		list = append(list, random(rnd))
	}
	looked := 0
	check := func(a, b int64) {
		if a < 0 || b <= 0 {
			return
		}
		whole, code := asked(t, "QUOT", a, b)
		if code == api.CodeNum {
			return
		}
		left, other := asked(t, "MOD", a, b)
		product, third := dec.Mul(whole, b)
		sum, last := dec.Add(product, left)
		if code != 0 || other != 0 || third != 0 || last != 0 || sum != a {
			t.Fatalf("QUOT and MOD of %d and %d: %d, %d", a, b, whole, left)
		}
		looked++
	}
	for _, a := range list[:200] {
		for _, b := range list {
			check(a, b)
			check(b, a)
		}
	}
	if looked < 10000 {
		t.Errorf("%d were looked at", looked)
	}
}

// What follows: GCD and LCM hang not on the order of numbers, nor on their signs.
func TestOrderAndSigns(t *testing.T) {
	rnd := rand.New(rand.NewSource(83))
	for range 20000 {
		var x []int64
		most := int64(1) << (1 + rnd.Intn(49))
		for range 1 + rnd.Intn(16) {
			n := rnd.Int63n(most)
			if rnd.Intn(3) == 0 {
				n = n%13 + 1
			}
			x = append(x, n*10000)
		}
		for _, name := range []string{"GCD", "LCM"} {
			want := Call(name, parts(x...), 0)
			y := slices.Clone(x)
			rnd.Shuffle(len(y), func(i, j int) { y[i], y[j] = y[j], y[i] })
			for i := range y {
				if rnd.Intn(2) == 0 {
					y[i] = -y[i]
				}
			}
			calls(t, want, name, parts(y...)...)
		}
	}
}

// What follows, all orders and signs of some numbers.
func TestAllOrders(t *testing.T) {
	list := []int64{0, 10000, 40000, 60000, 90000, greatestWhole, greatestWhole - 10000}
	for _, a := range list {
		for _, b := range list {
			for _, c := range list {
				for _, name := range []string{"GCD", "LCM"} {
					want := Call(name, parts(a, b, c), 0)
					calls(t, want, name, parts(c, -a, b)...)
					calls(t, want, name, parts(-b, -c, -a)...)
					calls(t, want, name, parts(b, a, -c)...)
				}
			}
		}
	}
}

// R4: arguments that are handed in are as they were, their spare room too.
func TestHandedIn(t *testing.T) {
	entries := func() []api.Entry {
		return []api.Entry{{Cell: api.Cell{Row: 1, Col: 1}, Value: number(7)}, {Cell: api.Cell{Row: 1, Col: 2}, Value: text("spare")}}[:1]
	}
	given := func() []api.Arg {
		list := append(kinds(), wrongArgs()...)
		for range 20 {
			list = append(list, api.Arg{Many: true, Rect: api.Rect{Top: 1, Left: 1, Bottom: 2, Right: 2}, Entries: entries()}, api.Arg{Value: number(-120000)}, api.Arg{Value: number(180000)})
		}
		return list
	}
	args, rects := given(), make([]bool, 40)
	rects[20] = true
	keptRects := slices.Clone(rects)
	for name := range counts() {
		for at := range len(args) - 17 {
			for n := range 18 {
				Call(name, args[at:at+n], 8)
			}
		}
		for n := range 40 {
			Takes(name, rects[:n])
		}
	}
	if !reflect.DeepEqual(args, given()) || !slices.Equal(rects, keptRects) {
		t.Error("what was handed in has changed")
	}
	for _, a := range args {
		if a.Many && cap(a.Entries) == 2 && len(a.Entries) == 1 && a.Entries[:2][1].Value != text("spare") {
			t.Error("spare room has changed")
		}
	}
}

// R5: answers hang on arguments alone: asked again, in other orders, by many at one time.
func TestAgain(t *testing.T) {
	rnd := rand.New(rand.NewSource(84))
	type ask struct {
		name string
		args []api.Arg
		want api.Value
	}
	set := append(kinds(), wrongArgs()...)
	var asks []ask
	for name, count := range counts() {
		for range 100 {
			var args []api.Arg
			for range count[0] + rnd.Intn(count[1]-count[0]+1) {
				if rnd.Intn(8) == 0 {
					args = append(args, set[rnd.Intn(len(set))])
				} else {
					args = append(args, parts(random(rnd))...)
				}
			}
			asks = append(asks, ask{name, args, Call(name, args, 8)})
		}
	}
	var group sync.WaitGroup
	for hand := range 8 {
		group.Add(1)
		go func() {
			defer group.Done()
			order := rand.New(rand.NewSource(int64(hand))).Perm(len(asks))
			for _, i := range order {
				if v := Call(asks[i].name, asks[i].args, hand); v != asks[i].want {
					t.Errorf("%s(%s) = %s; it was %s", asks[i].name, brief(asks[i].args), show(v), show(asks[i].want))
				}
			}
		}()
	}
	group.Wait()
}

// R3: a value that is answered has the field of its tag alone.
func TestZeroFields(t *testing.T) {
	rnd := rand.New(rand.NewSource(85))
	for name, count := range counts() {
		for range 500 {
			var args []api.Arg
			for range count[0] {
				args = append(args, parts(random(rnd))...)
			}
			v := Call(name, args, 8)
			if !may(v) || v.Tag == api.Blank || v.Tag == api.Text || (v.Tag == api.Bool) != (name == "ODD" && v.Tag != api.Fault) {
				t.Errorf("%s(%s) = %s", name, brief(args), show(v))
			}
		}
	}
}
