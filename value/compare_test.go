package value

import (
	"bytes"
	"math"
	"strings"
	"testing"

	"oriel/api"
)

// ascending are values that are neither Blank nor Fault, each less than the next: written down, not worked out.
func ascending() []api.Value {
	long := strings.Repeat("x", 1<<12)
	return []api.Value{
		number(-math.MaxInt64), number(1 - math.MaxInt64), number(-1 << 32), number(-20000), number(-10000), number(-1),
		number(0), number(1), number(9999), number(10000), number(20000), number(100000), number(1 << 32), number(math.MaxInt64 - 1), number(math.MaxInt64),
		text(""), text("\x00"), text("\x00\x00"), text("\x00a"), text(" "), text("-1"), text("1"), text("10"), text("2"),
		text("A"), text("B"), text("Z"), text("a"), text("a\x00"), text("ab"), text("abc"), text("a\xff"), text("b"),
		text(long), text(long + "\x00"), text(long + "x"), text("\x7f"), text("\x80"), text("é"), text("\xff"), text("\xff\xff"),
		truth(false), truth(true),
	}
}

// P2.2: the order of values, from both sides.
func TestCompareOrder(t *testing.T) {
	list := ascending()
	for i, a := range list {
		for j, b := range list {
			want := 0
			if i < j {
				want = -1
			} else if i > j {
				want = 1
			}
			if n := Compare(a, b); n != want {
				t.Fatalf("Compare(%s, %s) = %d; want %d", brief(a), brief(b), n, want)
			}
		}
	}
}

// P2.2: texts stand byte by byte, whatever their bytes are.
func TestCompareBytes(t *testing.T) {
	for a := range 256 {
		for b := range 256 {
			for _, tail := range []string{"", "a", "\xff"} {
				one, two := []byte{'k', byte(a)}, append([]byte{'k', byte(b)}, tail...)
				if n := Compare(text(string(one)), text(string(two))); n != bytes.Compare(one, two) {
					t.Fatalf("Compare(%q, %q) = %d", one, two, n)
				}
			}
		}
	}
}

// P2.2: a Blank is what the other one's tag has for nothing.
func TestCompareBlank(t *testing.T) {
	blank := api.Value{}
	for _, c := range []struct {
		other api.Value
		want  int
	}{
		{blank, 0}, {number(0), 0}, {text(""), 0}, {truth(false), 0},
		{number(-1), 1}, {number(-math.MaxInt64), 1}, {number(1), -1}, {number(math.MaxInt64), -1},
		{text("\x00"), -1}, {text("a"), -1}, {text("0"), -1}, {truth(true), -1},
	} {
		if n := Compare(blank, c.other); n != c.want {
			t.Errorf("Compare(Blank, %+v) = %d; want %d", c.other, n, c.want)
		}
		if n := Compare(c.other, blank); n != -c.want {
			t.Errorf("Compare(%+v, Blank) = %d; want %d", c.other, n, -c.want)
		}
	}
}

// P2.2: with a Fault or what may not be, on either side or on both, it is 0.
func TestCompareNothing(t *testing.T) {
	none := append(faults(), wrongs()...)
	for _, a := range none {
		for _, b := range everything() {
			if n := Compare(a, b); n != 0 {
				t.Fatalf("Compare(%s, %s) = %d", brief(a), brief(b), n)
			}
			if n := Compare(b, a); n != 0 {
				t.Fatalf("Compare(%s, %s) = %d", brief(b), brief(a), n)
			}
		}
	}
}

// What follows: each way round it is the other's negative, and 0 just for the same ones.
func TestCompareFollows(t *testing.T) {
	for _, a := range good() {
		for _, b := range good() {
			n := Compare(a, b)
			if n < -1 || n > 1 || n != -Compare(b, a) {
				t.Fatalf("Compare(%s, %s) = %d, the other way round %d", brief(a), brief(b), n, Compare(b, a))
			}
			if a.Tag != api.Blank && b.Tag != api.Blank && (n == 0) != Same(a, b) {
				t.Fatalf("Compare(%s, %s) = %d", brief(a), brief(b), n)
			}
		}
	}
}

// What follows: less than what is less is less.
func TestCompareChain(t *testing.T) {
	list := good()[1:]
	for _, a := range list {
		for _, b := range list {
			if Compare(a, b) >= 0 {
				continue
			}
			for _, c := range list {
				if Compare(b, c) < 0 && Compare(a, c) >= 0 {
					t.Fatalf("%s is less than %s, this less than %s", brief(a), brief(b), brief(c))
				}
			}
		}
	}
}
