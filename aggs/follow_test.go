package aggs

import (
	"math/rand"
	"reflect"
	"slices"
	"strings"
	"sync"
	"testing"
	"unsafe"

	"oriel/api"
	"oriel/value"
)

// asked is what a function answers of arguments, with as many bytes for a text as may be.
func asked(name string, list ...any) api.Value { return Call(name, row(list...), api.MaxText) }

// randomItems are single arguments and rectangles.
func randomItems(rnd *rand.Rand, most int, faults bool) []api.Arg {
	var args []api.Arg
	for range 1 + rnd.Intn(most) {
		if rnd.Intn(2) == 0 {
			args = append(args, row(randomValue(rnd, faults))...)
		} else {
			args = append(args, randomBox(rnd, 1+rnd.Intn(3), 1+rnd.Intn(3), faults))
		}
	}
	return args
}

// What follows: SUM, MIN, MAX, AVG, MEDIAN and COUNT hang not on the order of arguments.
func TestAnyOrder(t *testing.T) {
	rnd := rand.New(rand.NewSource(101))
	for range 3000 {
		args := randomItems(rnd, 8, false)
		for _, name := range []string{"SUM", "MIN", "MAX", "AVG", "MEDIAN", "COUNT"} {
			want := Call(name, args, 8)
			other := slices.Clone(args)
			slices.Reverse(other)
			calls(t, 8, want, name, other...)
			rnd.Shuffle(len(other), func(i, j int) { other[i], other[j] = other[j], other[i] })
			calls(t, 8, want, name, other...)
		}
	}
}

// What follows: MEDIAN and AVG are not below MIN, nor above MAX.
func TestBetween(t *testing.T) {
	rnd := rand.New(rand.NewSource(102))
	some := 0
	for range 5000 {
		args := randomItems(rnd, 6, false)
		if rnd.Intn(4) == 0 {
			args = row(parts(highest), parts(highest-rnd.Int63n(3)), parts(highest-rnd.Int63n(3)))
		}
		low, high := Call("MIN", args, 8), Call("MAX", args, 8)
		for _, name := range []string{"MEDIAN", "AVG"} {
			v := Call(name, args, 8)
			if low.Tag != api.Number {
				calls(t, 8, low, name, args...)
			} else if v.Tag != api.Number || value.Compare(v, low) < 0 || value.Compare(v, high) > 0 {
				t.Fatalf("%s(%s) = %s, not from %s to %s", name, shown(args), brief(v), brief(low), brief(high))
			} else {
				some++
			}
		}
	}
	if some < 1000 {
		t.Errorf("only %d numbers were looked at", some)
	}
}

// What follows: LARGE of 1 is MAX; of the count of numbers it is MIN.
func TestLargeIsMax(t *testing.T) {
	rnd := rand.New(rand.NewSource(103))
	for range 3000 {
		a := randomBox(rnd, 1+rnd.Intn(4), 1+rnd.Intn(4), rnd.Intn(4) == 0)
		count := asked("COUNT", a)
		if first := asked("LARGE", a, 1); count != wholes(0) && first != asked("MAX", a) {
			t.Fatalf("LARGE(%s, 1) = %s", shown(row(a)), brief(first))
		}
		if last := asked("LARGE", a, count); count != wholes(0) && last != asked("MIN", a) {
			t.Fatalf("LARGE(%s, last) = %s", shown(row(a)), brief(last))
		}
	}
}

// What follows: BLANKS is COUNTIF of Blank, and with COUNTA it makes all cells.
func TestAllCells(t *testing.T) {
	rnd := rand.New(rand.NewSource(104))
	list := append(boxes(), box(allCells), box("A1:A4096", 1, nil, api.Value{}))
	for range 3000 {
		list = append(list, randomBox(rnd, 1+rnd.Intn(5), 1+rnd.Intn(5), true))
	}
	for _, a := range list {
		blanks, all := asked("BLANKS", a), asked("ROWS", a).Num*asked("COLS", a).Num/10000
		if other := asked("COUNTIF", a, api.Value{}); other != blanks {
			t.Fatalf("BLANKS(%s) = %s, COUNTIF %s", shown(row(a)), brief(blanks), brief(other))
		}
		if filled := asked("COUNTA", a); blanks.Num+filled.Num != all {
			t.Fatalf("BLANKS(%s) = %s, COUNTA %s, of %d parts", shown(row(a)), brief(blanks), brief(filled), all)
		}
	}
}

// The rows beside each other: INDEX at the place that MATCH tells has the value, and LOOKUP is what INDEX has there.
func TestMatchAndIndex(t *testing.T) {
	rnd := rand.New(rand.NewSource(105))
	found := 0
	for range 4000 {
		n := 1 + rnd.Intn(7)
		line, other := randomBox(rnd, 1, n, true), randomBox(rnd, 1, n, true)
		v := wanted(randomValue(rnd, false))
		if there := asked("INDEX", line, 1, 1+rnd.Intn(n)); there.Tag != api.Fault {
			v = there
		}
		at := asked("MATCH", v, line)
		if at == fault(api.CodeMiss) {
			if count := asked("COUNTIF", line, v); count != wholes(0) {
				t.Fatalf("MATCH finds no %s in %s", brief(v), shown(row(line)))
			}
			calls(t, 8, api.CodeMiss, "LOOKUP", row(v, line, other)...)
			continue
		}
		found++
		if there := asked("INDEX", line, 1, at); there != v {
			t.Fatalf("MATCH(%s, %s) = %s, where %s is", brief(v), shown(row(line)), brief(at), brief(there))
		}
		calls(t, 8, asked("INDEX", other, 1, at), "LOOKUP", row(v, line, other)...)
	}
	if found < 500 {
		t.Errorf("only %d were found", found)
	}
}

// R4: arguments that are handed in are as they were, their spare room too.
func TestHandedIn(t *testing.T) {
	handed := func() []api.Arg {
		list := append(kinds(), wrongArgs()[:20]...)
		for i := range 30 {
			spare := box("A1:A4", 9-i, "x", 3, "spare")
			spare.Entries = spare.Entries[:3]
			list = append(list, spare)
			list = append(list, row(1, 2, "b")[i%3], box("C1:C4", 4, 3, 2, 1), box("D1:F1", 5, 1, api.CodeDiv))
		}
		return list
	}
	args, rects := handed(), make([]bool, 40)
	rects[0], rects[20] = true, true
	kept := slices.Clone(rects)
	for _, name := range names() {
		for at := range len(args) - 17 {
			for n := range 18 {
				Call(name, args[at:at+n], 8)
			}
		}
		for n := range 40 {
			Takes(name, rects[:n])
		}
	}
	if !reflect.DeepEqual(args, handed()) || !slices.Equal(rects, kept) {
		t.Error("what was handed in has changed")
	}
	for _, a := range args {
		if len(a.Entries) == 3 && cap(a.Entries) > 3 && a.Entries[:4][3].Value.Tag == api.Text && a.Entries[:4][3].Value != text("spare") {
			t.Error("spare room has changed")
		}
	}
}

// R4: numbers are not put in order where they were handed in, of rectangles whose numbers fall.
func TestFalling(t *testing.T) {
	fall := func() []api.Arg { return row(box("A1:C2", 6, 5, 4, 3, 2, 1), 0, box("A1:A2", 9, 8)) }
	args := fall()
	for _, name := range names() {
		for n := range len(args) + 1 {
			Call(name, args[:n], 8)
			Call(name, args[n:], 8)
		}
	}
	Call("LARGE", row(args[0], 2), 8)
	Call("SUMIF", row(args[0], 5, args[0]), 8)
	if !reflect.DeepEqual(args, fall()) {
		t.Errorf("they are now %s", shown(args))
	}
}

// R4: a text that is answered is new memory: it shares no byte with an argument.
func TestNewMemory(t *testing.T) {
	start := func(s string) uintptr { return uintptr(unsafe.Pointer(unsafe.StringData(s))) }
	s := strings.Repeat("AB", 300)
	for _, a := range []ask{
		{"INDEX", row(box("A1:A2", 1, s), 2, 1), s}, {"LOOKUP", row(1, box("A1:A2", 2, 1), box("B1:B2", "x", s)), s}, {"LOOKUP", row(s, box("A1:A2", 2, s), box("A1:A2", 2, s)), s},
		{"JOIN", row("-", s), s}, {"JOIN", row("-", box("A1:A2", nil, s)), s}, {"JOIN", row(s, "", ""), s}, {"JOIN", row("", s, ""), s},
	} {
		v := Call(a.name, a.args, 1024)
		if v != wanted(a.want) {
			t.Errorf("%s = %s", a.name, brief(v))
		}
		if at := start(v.Str); at >= start(s) && at < start(s)+uintptr(len(s)) {
			t.Errorf("%s(%s) is a piece of its argument", a.name, shown(a.args))
		}
	}
}

// R5: answers hang on arguments alone: asked again, in other orders, by many at one time.
func TestAgain(t *testing.T) {
	rnd := rand.New(rand.NewSource(106))
	type before struct {
		name string
		args []api.Arg
		want api.Value
	}
	set := append(kinds(), wrongArgs()...)
	var list []before
	for _, name := range names() {
		f := forms()[name]
		for range 200 {
			args := f.plain(f.least + rnd.Intn(len(f.places)-f.least+1))
			args[rnd.Intn(len(args))] = set[rnd.Intn(len(set))]
			list = append(list, before{name, args, Call(name, args, 8)})
		}
	}
	var group sync.WaitGroup
	for hand := range 8 {
		group.Add(1)
		go func() {
			defer group.Done()
			for _, i := range rand.New(rand.NewSource(int64(hand))).Perm(len(list)) {
				if v := Call(list[i].name, list[i].args, 8); v != list[i].want {
					t.Errorf("%s(%s) = %s; it was %s", list[i].name, shown(list[i].args), brief(v), brief(list[i].want))
				}
			}
		}()
	}
	group.Wait()
}

// R5: answers hang on no capacity, and nil and empty entries are one.
func TestCapacity(t *testing.T) {
	rnd := rand.New(rand.NewSource(107))
	for range 500 {
		a := randomBox(rnd, 1, 1+rnd.Intn(4), true)
		b := a
		b.Entries = append(make([]api.Entry, 0, 9), a.Entries...)
		for _, name := range []string{"SUM", "COUNTA", "BLANKS", "MEDIAN", "JOIN"} {
			first, second := row(a), row(b)
			if name == "JOIN" {
				first, second = row("-", a), row("-", b)
			}
			calls(t, 1024, Call(name, first, 1024), name, second...)
		}
	}
}

// R3: a value that is answered may be, and is of its function's kind, or a Fault.
func TestZeroFields(t *testing.T) {
	rnd := rand.New(rand.NewSource(108))
	for _, name := range names() {
		f := forms()[name]
		for range 1000 {
			var args []api.Arg
			for _, place := range f.places[:f.least] {
				switch place {
				case 'r', 'x':
					args = append(args, randomBox(rnd, 1, 3, true))
				case 'n':
					args = append(args, row(1)...)
				default:
					args = append(args, row(randomValue(rnd, false))...)
				}
			}
			v := Call(name, args, 64)
			right := v.Tag == api.Number || v.Tag == api.Fault
			switch name {
			case "INDEX", "LOOKUP":
				right = true
			case "JOIN":
				right = v.Tag == api.Text || v.Tag == api.Fault
			case "COUNT", "COUNTA", "BLANKS", "COUNTIF", "ROWS", "COLS":
				right = v.Tag == api.Number
			}
			if !right || !value.May(v) {
				t.Errorf("%s(%s) = %s", name, shown(args), brief(v))
			}
		}
	}
}
