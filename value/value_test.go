package value

import (
	"math"
	"testing"

	"oriel/api"
)

// P2.1: which values may be.
func TestMay(t *testing.T) {
	for _, v := range append(good(), faults()...) {
		if !May(v) {
			t.Errorf("May(%s) = false", brief(v))
		}
	}
	for _, v := range wrongs() {
		if May(v) {
			t.Errorf("May(%s) = true", brief(v))
		}
	}
}

// P2.1: all small values, held against the chapter's words.
func TestMayByFields(t *testing.T) {
	for tag := api.Tag(-1); tag <= 6; tag++ {
		for _, x := range []int64{math.MinInt64, 0, 1} {
			for _, s := range []string{"", "x"} {
				for _, is := range []bool{false, true} {
					for c := api.Code(-1); c <= 9; c++ {
						v := api.Value{Tag: tag, Num: x, Str: s, Is: is, Code: c}
						if May(v) != mayBe(v) {
							t.Fatalf("May(%+v) = %v", v, !mayBe(v))
						}
					}
				}
			}
		}
	}
}

// mayBe is the chapter's sentence on what may be.
func mayBe(v api.Value) bool {
	zero := []bool{v.Num == 0, v.Str == "", !v.Is, v.Code == 0}
	for i, is := range zero {
		if own := i+1 == int(v.Tag); !own && !is {
			return false
		}
	}
	return v.Tag >= 0 && v.Tag <= 4 && v.Num != math.MinInt64 && (v.Tag != 4 || v.Code >= 1 && v.Code <= 8)
}

// P2.1: the makers.
func TestMakers(t *testing.T) {
	for _, x := range numbers() {
		if v := Num(x); v != number(x) {
			t.Errorf("Num(%d) = %+v", x, v)
		}
	}
	if v := Num(math.MinInt64); v != fault(api.CodeNum) {
		t.Errorf("Num(-2^63) = %+v", v)
	}
	for _, s := range someTexts() {
		if v := Txt(s); v != text(s) {
			t.Errorf("Txt(%.40q) = %s", s, brief(v))
		}
	}
	for _, is := range []bool{false, true} {
		if v := Truth(is); v != truth(is) {
			t.Errorf("Truth(%v) = %+v", is, v)
		}
	}
	for c := api.Code(1); c <= 8; c++ {
		if v := Err(c); v != fault(c) {
			t.Errorf("Err(%d) = %+v", c, v)
		}
	}
	for _, c := range wrongCodes() {
		if v := Err(c); v != fault(api.CodeArg) {
			t.Errorf("Err(%d) = %+v", c, v)
		}
	}
}

// P2.2: Same holds all fields against each other, also of what may not be.
func TestSame(t *testing.T) {
	for _, a := range everything() {
		for _, b := range everything() {
			if Same(a, b) != (a.Tag == b.Tag && a.Num == b.Num && a.Str == b.Str && a.Is == b.Is && a.Code == b.Code) {
				t.Fatalf("Same(%s, %s) = %v", brief(a), brief(b), Same(a, b))
			}
		}
	}
	if !Same(text("ab"), text("a"+string([]byte{'b'}))) {
		t.Error("Same of two texts with the same bytes = false")
	}
	for _, tag := range append(wrongTags(), 0, 1, 2, 3, 4) {
		v := api.Value{Tag: tag, Num: 7, Str: "x", Is: true, Code: 3}
		if !Same(v, v) {
			t.Errorf("Same(%+v, itself) = false", v)
		}
		for i, other := range []api.Value{
			{Tag: tag + 1, Num: 7, Str: "x", Is: true, Code: 3},
			{Tag: tag, Num: 8, Str: "x", Is: true, Code: 3},
			{Tag: tag, Num: 7, Str: "X", Is: true, Code: 3},
			{Tag: tag, Num: 7, Str: "x", Code: 3},
			{Tag: tag, Num: 7, Str: "x", Is: true, Code: 4},
		} {
			if Same(v, other) || Same(other, v) {
				t.Errorf("Same(%+v, with another field %d) = true", v, i)
			}
		}
	}
}
