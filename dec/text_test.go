package dec

import (
	"math/big"
	"regexp"
	"strings"
	"testing"
)

func TestParse(t *testing.T) {
	for s, x := range map[string]int64{
		"-1.50": -15000, "0.0001": 1, "-0.0001": -1, "922337203685477.5807": most, "-922337203685477.5807": -most, "0": 0, "0.0": 0, "0.0000": 0,
		"1": 10000, "-1": -10000, "7.5": 75000, "7.05": 70500, "7.005": 70050, "7.0005": 70005, "7.0000": 70000, "10": 100000, "100.0100": 1000100,
		"922337203685477": 9223372036854770000, "-922337203685477": -9223372036854770000, "123456789012345": 1234567890123450000, "123456789012345.6789": 1234567890123456789,
	} {
		if y, ok := Parse(s); y != x || !ok {
			t.Errorf("Parse(%q) = %d, %v; want %d", s, y, ok, x)
		}
	}
}

func TestParseRefuses(t *testing.T) {
	for _, s := range []string{
		"", "-", ".", "-.", "+1", "--1", "-+1", " 1", "1 ", "- 1", "1 2", "1.", "-1.", ".5", "-.5", "1..5", "1.2.3", "1.-5", "1.+5", "1.5-", "1,5", "1e5", "0x1", "1_0", "a", "1a", "1.a",
		"00", "01", "-01", "00.5", "01.5", "-0", "-0.0", "-0.0000", "1.00000", "0.00001", "1.23456",
		"922337203685477.5808", "-922337203685477.5808", "922337203685477.5809", "922337203685478", "-922337203685478", "999999999999999", "999999999999999.9999",
		"1234567890123456", "1000000000000000", "9999999999999999", "9999999999999999.9999", "-9999999999999999", "0000000000000001", "-1234567890123456", "18446744073709551617", strings.Repeat("1", 1000),
		"1\x00", "\x001", "\xff", "1.\xff", "\u0661", "1.\u0661", "1\n", "\uff11", "/", ":", "1/", "1:", "1.5/", "1.5:",
	} {
		if y, ok := Parse(s); y != 0 || ok {
			t.Errorf("Parse(%q) = %d, %v", s, y, ok)
		}
	}
}

// All short texts of the bytes that matter are held against the form as the chapter tells it.
func TestParseForm(t *testing.T) {
	form := regexp.MustCompile(`^-?(0|[1-9][0-9]{0,14})(\.[0-9]{1,4})?$`)
	texts := []string{""}
	for range 7 {
		for _, s := range texts {
			x, ok := Parse(s)
			wantX, want := int64(0), false
			if v, is := new(big.Rat).SetString(s); is && form.MatchString(s) && !(v.Sign() == 0 && s[0] == '-') {
				wantX, _ = rounded(v)
				want = true
			}
			if x != wantX || ok != want {
				t.Fatalf("Parse(%q) = %d, %v; want %d, %v", s, x, ok, wantX, want)
			}
		}
		longer := make([]string, 0, 6*len(texts))
		for _, s := range texts {
			for _, more := range []string{"-", ".", "0", "1", "9", "x"} {
				longer = append(longer, s+more)
			}
		}
		texts = longer
	}
}

func TestPrint(t *testing.T) {
	for x, s := range map[int64]string{
		-15000: "-1.5", 15000: "1.5", 1: "0.0001", -1: "-0.0001", 10: "0.001", 100: "0.01", 1000: "0.1", 1100: "0.11", 1010: "0.101", 0: "0", 10000: "1", 100000: "10", -100000: "-10",
		10001: "1.0001", 10010: "1.001", 70500: "7.05", 9999: "0.9999", 1000000: "100", most: "922337203685477.5807", -most: "-922337203685477.5807", 9223372036854770000: "922337203685477", least: "",
	} {
		if got := Print(x); got != s {
			t.Errorf("Print(%d) = %q; want %q", x, got, s)
		}
	}
}

func TestThereAndBack(t *testing.T) {
	list := withMore(20000)
	for x := int64(-25000); x < 25000; x++ {
		list = append(list, x)
	}
	for _, x := range list {
		if y, ok := Parse(Print(x)); May(x) && (y != x || !ok) {
			t.Errorf("Parse(Print(%d)) = %d, %v", x, y, ok)
		}
	}
}

func TestBackAndThere(t *testing.T) {
	for s, shown := range map[string]string{
		"1.50": "1.5", "-1.50": "-1.5", "1.0": "1", "1.0000": "1", "0.0": "0", "10.0": "10", "100": "100", "0.1000": "0.1", "0.0100": "0.01", "-20.0": "-20", "1.0101": "1.0101", "5": "5",
	} {
		x, ok := Parse(s)
		if got := Print(x); got != shown || !ok {
			t.Errorf("Print of what Parse(%q) read = %q; want %q", s, got, shown)
		}
	}
}
