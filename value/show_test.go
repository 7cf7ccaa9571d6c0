package value

import (
	"strings"
	"testing"

	"oriel/api"
)

// told are the names as the chapter tells them, of 1 to 8.
func told() []string {
	return strings.Fields("#CYCLE! #NUM! #DIV! #TYPE! #RANGE! #MISS! #LONG! #ARG!")
}

// P2.4: all eight names, there and back.
func TestNames(t *testing.T) {
	for i, s := range told() {
		c := api.Code(i + 1)
		if Name(c) != s {
			t.Errorf("Name(%d) = %q; want %q", c, Name(c), s)
		}
		if got, is := Named(s); got != c || !is {
			t.Errorf("Named(%q) = %d, %v", s, got, is)
		}
	}
}

// P2.4: codes without a name.
func TestNoName(t *testing.T) {
	for _, c := range wrongCodes() {
		if Name(c) != "" {
			t.Errorf("Name(%d) = %q", c, Name(c))
		}
	}
}

// P2.4: texts that are no names: each name in other letters, with less, with more.
func TestNotNamed(t *testing.T) {
	list := []string{"", " ", "#", "!", "#!", "CYCLE", "#CYCLE", "ARG!", "#NONE!", "#FAULT!", "0", "1", "8", "\x00", "#ARG!#ARG!", "#NUM!\x00"}
	for _, s := range told() {
		list = append(list, strings.ToLower(s), s[:len(s)-1], s[1:], s+" ", " "+s, s+"!", "#"+s, strings.Trim(s, "#!"), s[:2]+strings.ToLower(s[2:]))
	}
	for _, s := range list {
		if c, is := Named(s); c != api.CodeNone || is {
			t.Errorf("Named(%q) = %d, %v", s, c, is)
		}
	}
}

// P2.4: what is shown of each tag.
func TestShow(t *testing.T) {
	for _, v := range good() {
		if want, _ := AsText(v); Show(v) != want {
			t.Errorf("Show(%s) = %.40q", brief(v), Show(v))
		}
	}
	for i, v := range faults() {
		if Show(v) != told()[i] {
			t.Errorf("Show(%+v) = %q", v, Show(v))
		}
	}
	for _, v := range wrongs() {
		if Show(v) != "" {
			t.Errorf("Show(%s) = %.40q", brief(v), Show(v))
		}
	}
	for v, want := range map[api.Value]string{{}: "", number(15000): "1.5", number(-1): "-0.0001", truth(true): "TRUE", truth(false): "FALSE", text("a b\n"): "a b\n", text("#ARG!"): "#ARG!", text(""): ""} {
		if Show(v) != want {
			t.Errorf("Show(%+v) = %q; want %q", v, Show(v), want)
		}
	}
}
