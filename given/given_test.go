package given

import (
	"math"
	"slices"
	"strings"
	"testing"
	"unsafe"

	"oriel/api"
)

func number(x int64) api.Arg { return api.Arg{Value: api.Value{Tag: api.Number, Num: x}} }
func fault(c api.Code) api.Arg {
	return api.Arg{Value: api.Value{Tag: api.Fault, Code: c}}
}

// rect is a rectangle with a fault in it.
func rect(c api.Code) api.Arg {
	return api.Arg{Many: true, Rect: api.Rect{Top: 1, Left: 1, Bottom: 1, Right: 1}, Entries: []api.Entry{{Cell: api.Cell{Row: 1, Col: 1}, Value: fault(c).Value}}}
}

// right are single arguments that may be, of each kind.
func right() []api.Arg {
	return []api.Arg{
		{}, number(0), number(math.MaxInt64), number(-math.MaxInt64), fault(1), fault(8), {Value: api.Value{Tag: api.Text}}, {Value: api.Value{Tag: api.Text, Str: "x"}},
		{Value: api.Value{Tag: api.Bool}}, {Value: api.Value{Tag: api.Bool, Is: true}}, {Entries: []api.Entry{}}, {Entries: make([]api.Entry, 0, 4)},
	}
}

// wrong are arguments that are none of those.
func wrong() []api.Arg {
	one := number(10000).Value
	all := api.Rect{Top: 1, Left: 1, Bottom: 2, Right: 2}
	return []api.Arg{
		number(math.MinInt64), fault(0), fault(9), {Value: api.Value{Num: 1}}, {Value: api.Value{Tag: 5}}, {Value: api.Value{Tag: api.Bool, Num: 1}},
		{Value: one, Rect: all}, {Value: one, Rect: api.Rect{Right: 1}}, {Value: one, Entries: []api.Entry{{}}}, {Rect: all}, {Entries: []api.Entry{{}}},
		{Many: true}, {Many: true, Rect: all}, {Many: true, Value: one}, {Many: true, Rect: all, Entries: []api.Entry{{Cell: api.Cell{Row: 1, Col: 1}, Value: one}}},
	}
}

// A count holds both its bounds, and no rectangle.
func TestTakes(t *testing.T) {
	for _, c := range []Count{{0, 0}, {1, 1}, {1, 2}, {2, 5}, {1, api.MaxArgs}} {
		for n := range 20 {
			rects := make([]bool, n)
			is := n >= c.Least && n <= c.Most
			if c.Takes(rects) != is || c.Singles(make([]api.Arg, n)) != is {
				t.Errorf("%+v: that it takes %d is wrong", c, n)
			}
			for i := range rects {
				one := slices.Clone(rects)
				one[i] = true
				if c.Takes(one) {
					t.Errorf("%+v takes a rectangle at %d of %d", c, i, n)
				}
			}
		}
	}
	if one := (Count{0, 3}); !one.Takes(nil) || !one.Singles(nil) || !one.Takes([]bool{}) || !one.Singles([]api.Arg{}) {
		t.Error("none, nil or empty, are none")
	}
}

// Each argument must be a single one that may be.
func TestSingles(t *testing.T) {
	three := Count{Least: 3, Most: 3}
	for i, a := range right() {
		if !three.Singles([]api.Arg{a, a, a}) || !Single(a) {
			t.Errorf("the right one %d is refused", i)
		}
	}
	for i, a := range wrong() {
		for at := range 3 {
			args := slices.Repeat([]api.Arg{number(10000)}, 3)
			args[at] = a
			if three.Singles(args) || Single(a) {
				t.Errorf("the wrong one %d is taken at %d", i, at)
			}
		}
	}
}

// Of several faults it is the first.
func TestFault(t *testing.T) {
	one := number(10000)
	for _, c := range []struct {
		args []api.Arg
		want api.Code
	}{
		{nil, 0}, {[]api.Arg{}, 0}, {right()[:4], 0}, {[]api.Arg{fault(3)}, 3}, {[]api.Arg{fault(3), fault(4)}, 3}, {[]api.Arg{one, fault(8), fault(1)}, 8}, {[]api.Arg{one, {}, fault(1)}, 1},
		{[]api.Arg{rect(3), fault(4)}, 4}, {[]api.Arg{rect(3)}, 0}, {[]api.Arg{{Many: true, Value: fault(3).Value}, fault(4)}, 4},
	} {
		v, is := Fault(c.args)
		if is != (c.want != 0) || is && v != fault(c.want).Value || !is && v != (api.Value{}) {
			t.Errorf("Fault(%+v) = %+v, %v", c.args, v, is)
		}
	}
}

// A value is taken for a number, which must be whole.
func TestWhole(t *testing.T) {
	for _, c := range []struct {
		v    api.Value
		n    int64
		code api.Code
	}{
		{api.Value{}, 0, 0}, {number(0).Value, 0, 0}, {number(150000).Value, 15, 0}, {number(-20000).Value, -2, 0}, {number(9223372036854770000).Value, 922337203685477, 0}, {number(-9223372036854770000).Value, -922337203685477, 0},
		{api.Value{Tag: api.Bool, Is: true}, 1, 0}, {api.Value{Tag: api.Bool}, 0, 0}, {number(1).Value, 0, api.CodeArg}, {number(-15000).Value, 0, api.CodeArg}, {number(math.MaxInt64).Value, 0, api.CodeArg}, {number(-math.MaxInt64).Value, 0, api.CodeArg},
		{api.Value{Tag: api.Text, Str: "1"}, 0, api.CodeType}, {api.Value{Tag: api.Text}, 0, api.CodeType}, {fault(3).Value, 0, 3}, {fault(1).Value, 0, 1}, {number(math.MinInt64).Value, 0, api.CodeArg}, {api.Value{Num: 10000}, 0, api.CodeArg}, {fault(9).Value, 0, api.CodeArg},
	} {
		if n, code := Whole(c.v); n != c.n || code != c.code {
			t.Errorf("Whole(%+v) = %d, %d", c.v, n, code)
		}
	}
}

// A copy is the same value, and a text of it has bytes of its own.
func TestCopied(t *testing.T) {
	long := api.Value{Tag: api.Text, Str: strings.Repeat("ab", 2000)}
	for _, v := range []api.Value{{}, number(-15000).Value, fault(1).Value, fault(8).Value, {Tag: api.Bool, Is: true}, {Tag: api.Bool}, {Tag: api.Text}, {Tag: api.Text, Str: "\x00\xff"}, long} {
		if c := Copied(v); c != v {
			t.Errorf("Copied(%+v) = %+v", v, c)
		}
	}
	if c := Copied(long); unsafe.StringData(c.Str) == unsafe.StringData(long.Str) {
		t.Error("the copy has the bytes of what it was made from")
	}
}
