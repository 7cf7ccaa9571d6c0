package texts

import (
	"math/rand"
	"reflect"
	"slices"
	"strings"
	"sync"
	"testing"
	"unsafe"

	"oriel/api"
	"oriel/value"
)

// asked is what a function answers of arguments, with as many bytes for a text as may be.
func asked(name string, list ...any) api.Value { return Call(name, row(list...), api.MaxText) }

// someTexts are all short texts of three bytes, and random ones.
func someTexts() []string {
	rnd := rand.New(rand.NewSource(91))
	list := shortTexts("ab\xff", 4)
	for range 500 {
		list = append(list, randomText(rnd, 40))
	}
	return append(list, strings.Repeat("ab", 512), strings.Repeat("\xff", 1024))
}

// What follows: LEFT of n and MID from n + 1 on make a text again; so do MID ahead of it and RIGHT.
func TestLeftAndMid(t *testing.T) {
	for _, s := range someTexts() {
		for n := range min(len(s), 60) + 3 {
			first, rest := asked("LEFT", s, n), asked("MID", s, n+1, len(s))
			if again := asked("CONCAT", first, rest); again != text(s) {
				t.Fatalf("LEFT and MID of %q at %d: %s", s, n, brief(again))
			}
			if last := asked("RIGHT", s, max(0, len(s)-n)); last != rest {
				t.Fatalf("RIGHT of %q behind %d: %s", s, n, brief(last))
			}
		}
	}
}

// What follows: REV of REV is the text.
func TestRevOfRev(t *testing.T) {
	for _, s := range someTexts() {
		if back := asked("REV", asked("REV", s)); back != text(s) {
			t.Fatalf("REV of REV of %q: %s", s, brief(back))
		}
	}
}

// What follows: the place that FIND tells is one at which the text stands, and none ahead of it is.
func TestFound(t *testing.T) {
	found := 0
	for _, s := range someTexts() {
		for _, p := range []string{"", "a", "b", "ab", "aa", "ba", "\xff", "a\xff", " ", "  ", "1.", s} {
			for from := 1; from <= min(len(s), 60)+2; from++ {
				v := asked("FIND", p, s, from)
				if v == fault(api.CodeMiss) {
					continue
				}
				at := int(v.Num / 10000)
				if v != whole(int64(at)) || at < from || !standsAt(p, s, at) {
					t.Fatalf("FIND(%q, %q, %d) = %s", p, s, from, brief(v))
				}
				for ahead := from; ahead < at; ahead++ {
					if standsAt(p, s, ahead) {
						t.Fatalf("FIND(%q, %q, %d) = %s, but it stands at %d", p, s, from, brief(v), ahead)
					}
				}
				found++
			}
		}
	}
	if found < 1000 {
		t.Errorf("%d were found", found)
	}
}

// standsAt tells by MID whether a text stands at a place of another, at which there may be no byte.
func standsAt(p, s string, at int) bool {
	return at <= len(s)+1 && asked("MID", s, at, len(p)) == text(p)
}

// What follows: the length of CONCAT is that of all together.
func TestLengthOfAll(t *testing.T) {
	rnd := rand.New(rand.NewSource(92))
	for range 20000 {
		var list []any
		sum := int64(0)
		for range 1 + rnd.Intn(16) {
			list = append(list, randomText(rnd, 60))
			sum += asked("LEN", list[len(list)-1]).Num
		}
		if v := asked("LEN", asked("CONCAT", list...)); v != parts(sum) {
			t.Fatalf("LEN of CONCAT of %s: %s", brief(list), brief(v))
		}
	}
}

// R4: arguments that are handed in are as they were, their spare room too.
func TestHandedIn(t *testing.T) {
	handed := func() []api.Arg {
		list := append(kinds(), wrongArgs()...)
		for range 20 {
			entries := []api.Entry{{Cell: api.Cell{Row: 1, Col: 1}, Value: whole(7)}, {Cell: api.Cell{Row: 1, Col: 2}, Value: text("spare")}}
			list = append(list, api.Arg{Many: true, Rect: api.Rect{Top: 1, Left: 1, Bottom: 2, Right: 2}, Entries: entries[:1]})
			list = append(list, row(" aB  c ", 2, 1, "b", "\xff")...)
		}
		return list
	}
	args, rects := handed(), make([]bool, 40)
	rects[20] = true
	kept := slices.Clone(rects)
	for name := range rows() {
		for at := range len(args) - 17 {
			for n := range 18 {
				Call(name, args[at:at+n], 8)
			}
		}
		for n := range 40 {
			Takes(name, rects[:n])
		}
	}
	if !reflect.DeepEqual(args, handed()) || !slices.Equal(rects, kept) {
		t.Error("what was handed in has changed")
	}
	for _, a := range args {
		if len(a.Entries) == 1 && cap(a.Entries) == 2 && a.Entries[:2][1].Value != text("spare") {
			t.Error("spare room has changed")
		}
	}
}

// R4: a text that is answered is new memory: it shares no byte with an argument.
func TestNewMemory(t *testing.T) {
	start := func(s string) uintptr { return uintptr(unsafe.Pointer(unsafe.StringData(s))) }
	s := strings.Repeat("AB", 300)
	for _, a := range []ask{
		{"LEFT", row(s, 600), s}, {"LEFT", row(s, 2), "AB"}, {"RIGHT", row(s, 600), s}, {"RIGHT", row(s, 2), "AB"}, {"MID", row(s, 1, 600), s}, {"MID", row(s, 3, 2), "AB"}, {"UPPER", row(s), s}, {"TRIM", row(s), s},
		{"REPT", row(s, 1), s}, {"SUBST", row(s, "x", "y"), s}, {"SUBST", row("x", "x", s), s}, {"CONCAT", row(s), s}, {"CONCAT", row("", s, ""), s},
	} {
		v := Call(a.name, a.args, 1024)
		if v != wanted(a.want) {
			t.Errorf("%s = %s", a.name, brief(v))
		}
		if at := start(v.Str); at >= start(s) && at < start(s)+uintptr(len(s)) {
			t.Errorf("%s(%s) is a piece of its argument", a.name, brief(a.args[1:]))
		}
	}
}

// R5: answers hang on arguments alone: asked again, in other orders, by many at one time.
func TestAgain(t *testing.T) {
	rnd := rand.New(rand.NewSource(93))
	type before struct {
		name string
		args []api.Arg
		want api.Value
	}
	set := append(kinds(), wrongArgs()...)
	var list []before
	for name, k := range rows() {
		for range 200 {
			args := k.plain(k.least + rnd.Intn(len(k.places)-k.least+1))
			args[rnd.Intn(len(args))] = set[rnd.Intn(len(set))]
			list = append(list, before{name, args, Call(name, args, 8)})
		}
	}
	var group sync.WaitGroup
	for hand := range 8 {
		group.Add(1)
		go func() {
			defer group.Done()
			for _, i := range rand.New(rand.NewSource(int64(hand))).Perm(len(list)) {
				if v := Call(list[i].name, list[i].args, 8); v != list[i].want {
					t.Errorf("%s(%s) = %s; it was %s", list[i].name, brief(list[i].args), brief(v), brief(list[i].want))
				}
			}
		}()
	}
	group.Wait()
}

// R3: a value that is answered may be, and is of its function's kind, or a Fault.
func TestZeroFields(t *testing.T) {
	rnd := rand.New(rand.NewSource(94))
	tags := map[string]api.Tag{"LEN": api.Number, "FIND": api.Number, "ORD": api.Number, "NUM": api.Number, "EXACT": api.Bool}
	for name, k := range rows() {
		tag, other := tags[name]
		if !other {
			tag = api.Text
		}
		for range 1000 {
			args := k.plain(k.least + rnd.Intn(len(k.places)-k.least+1))
			for i := range args {
				if k.places[i] == 's' {
					args[i].Value = text(randomText(rnd, 9))
				}
			}
			if v := Call(name, args, 8); !value.May(v) || v.Tag != tag && v.Tag != api.Fault {
				t.Errorf("%s(%s) = %s", name, brief(args), brief(v))
			}
		}
	}
}
