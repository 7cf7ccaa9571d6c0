package value

import (
	"fmt"
	"math"
	"testing"

	"oriel/api"
	"oriel/dec"
)

// taken is what a value is taken for: as a number, a text, a truth, each with its code.
type taken struct {
	num      int64
	numCode  api.Code
	str      string
	strCode  api.Code
	is       bool
	boolCode api.Code
}

// String tells it in few letters.
func (k taken) String() string {
	return fmt.Sprintf("{%d %d, %.40q %d, %v %d}", k.num, k.numCode, k.str, k.strCode, k.is, k.boolCode)
}

// take asks for all three.
func take(v api.Value) taken {
	var k taken
	k.num, k.numCode = AsNumber(v)
	k.str, k.strCode = AsText(v)
	k.is, k.boolCode = AsBool(v)
	return k
}

// P2.3: what each tag is taken for.
func TestTake(t *testing.T) {
	for _, c := range []struct {
		v    api.Value
		want taken
	}{
		{api.Value{}, taken{}},
		{truth(true), taken{num: 10000, str: "TRUE", is: true}},
		{truth(false), taken{str: "FALSE"}},
		{number(0), taken{str: "0"}},
		{number(1), taken{num: 1, str: "0.0001", is: true}},
		{number(-1), taken{num: -1, str: "-0.0001", is: true}},
		{number(5000), taken{num: 5000, str: "0.5", is: true}},
		{number(10000), taken{num: 10000, str: "1", is: true}},
		{number(15000), taken{num: 15000, str: "1.5", is: true}},
		{number(-math.MaxInt64), taken{num: -math.MaxInt64, str: "-922337203685477.5807", is: true}},
		{number(math.MaxInt64), taken{num: math.MaxInt64, str: "922337203685477.5807", is: true}},
	} {
		if got := take(c.v); got != c.want {
			t.Errorf("%+v is taken for %v; want %v", c.v, got, c.want)
		}
	}
}

// P2.3: a text is itself as a text, and nothing else, whatever it says.
func TestTakeText(t *testing.T) {
	for _, s := range someTexts() {
		want := taken{numCode: api.CodeType, str: s, boolCode: api.CodeType}
		if got := take(text(s)); got != want {
			t.Errorf("the text %.40q is taken for %v", s, got)
		}
	}
}

// P2.3: a number is itself as a number, and what dec.Print tells as a text.
func TestTakeNumber(t *testing.T) {
	for _, x := range numbers() {
		want := taken{num: x, str: dec.Print(x), is: x != 0}
		if got := take(number(x)); got != want {
			t.Errorf("the number %d is taken for %v", x, got)
		}
	}
}

// P2.3: a Fault gives its code, what may not be CodeArg; the other result is nothing then.
func TestTakeWrong(t *testing.T) {
	for _, v := range faults() {
		if got := take(v); got != (taken{numCode: v.Code, strCode: v.Code, boolCode: v.Code}) {
			t.Errorf("%+v is taken for %v", v, got)
		}
	}
	for _, v := range wrongs() {
		if got := take(v); got != (taken{numCode: api.CodeArg, strCode: api.CodeArg, boolCode: api.CodeArg}) {
			t.Errorf("%s is taken for %v", brief(v), got)
		}
	}
}
