package funcs

import (
	"math/rand"
	"reflect"
	"slices"
	"strings"
	"testing"
	"unsafe"

	"oriel/api"
)

// someArgs are arguments without a Fault CodeCycle in them.
func someArgs() []api.Arg {
	set := append(row(1, 2, 3, "ab", "x", "", true, false, nil, 0, -1, parts(5000), api.CodeNum, api.CodeDiv, api.CodeType, api.CodeRange, api.CodeMiss, api.CodeLong, api.CodeArg), boxes()[:4]...)
	return append(set, wrongArgs()[:6]...)
}

// randomArgs are a few of a set.
func randomArgs(rnd *rand.Rand, set []api.Arg) []api.Arg {
	var args []api.Arg
	for range rnd.Intn(5) {
		args = append(args, set[rnd.Intn(len(set))])
	}
	return args
}

// What follows: no function answers CodeCycle, unless an argument or an Entry is one.
func TestNoCycle(t *testing.T) {
	table, rnd, set := New(), rand.New(rand.NewSource(112)), someArgs()
	for _, name := range append(allNames(), otherNames()[:20]...) {
		for range 3000 {
			args := randomArgs(rnd, set)
			if v := table.Call(name, args, rnd.Intn(12)-1); v.Tag == api.Fault && v.Code == api.CodeCycle {
				t.Fatalf("%s(%s) = %s", name, brief(args), brief(v))
			}
		}
		for n := -5; n <= 20; n++ {
			if v := table.Call(name, row(n), 8); v == fault(api.CodeCycle) {
				t.Errorf("%s(%d) is CodeCycle", name, n)
			}
		}
	}
	cycle := api.CodeCycle
	checks(t, []ask{
		{"IF", row(cycle, 1), cycle}, {"IF", row(true, cycle), cycle}, {"NOT", row(cycle), cycle}, {"AND", row(1, cycle), cycle}, {"ERR", row(cycle), cycle}, {"CHOOSE", row(cycle, 1), cycle}, {"IFERR", row(cycle, cycle), cycle},
		{"ABS", row(cycle), cycle}, {"LEN", row(cycle), cycle}, {"SUM", row(box(1, cycle)), cycle}, {"INDEX", row(box(1, cycle), 2, 1), cycle},
	})
}

// What follows: of the five that ask for a tag just one is true.
func TestJustOne(t *testing.T) {
	table, rnd := New(), rand.New(rand.NewSource(113))
	list := values()
	for range 2000 {
		list = append(list, []api.Value{{}, parts(rnd.Int63()), text(strings.Repeat("a", rnd.Intn(40))), truth(rnd.Intn(2) == 0), fault(api.Code(1 + rnd.Intn(8)))}[rnd.Intn(5)])
	}
	for _, v := range list {
		yes := 0
		for _, name := range []string{"ISERR", "ISBLANK", "ISNUM", "ISTEXT", "ISBOOL"} {
			switch table.Call(name, row(v), 8) {
			case truth(true):
				yes++
			case truth(false):
			default:
				t.Errorf("%s(%s) is no Bool", name, brief(v))
			}
		}
		if yes != 1 {
			t.Errorf("%d are true of %s", yes, brief(v))
		}
	}
}

// What follows: ERR of ERRNO is the Fault, unless its Code is CodeCycle; and the other way round.
func TestErrOfErrno(t *testing.T) {
	table := New()
	for c := api.CodeCycle; c <= api.CodeArg; c++ {
		want := fault(c)
		if c == api.CodeCycle {
			want = fault(api.CodeArg)
		}
		if v := table.Call("ERR", row(table.Call("ERRNO", row(c), 8)), 8); v != want {
			t.Errorf("ERR of ERRNO of %d = %s", c, brief(v))
		}
	}
	for n := 2; n <= 8; n++ {
		if v := table.Call("ERRNO", row(table.Call("ERR", row(n), 8)), 8); v != wanted(n) {
			t.Errorf("ERRNO of ERR of %d = %s", n, brief(v))
		}
	}
}

// The rows beside each other: NOT of NOT is the truth, IF by NOT chooses the other one, CHOOSE of two by a truth's number is IF.
func TestRowsTogether(t *testing.T) {
	table := New()
	for _, c := range values() {
		is := table.Call("AND", row(c), 8)
		other := table.Call("NOT", row(c), 8)
		if again := table.Call("NOT", row(other), 8); again != is {
			t.Errorf("NOT of NOT of %s = %s", brief(c), brief(again))
		}
		if v := table.Call("IF", row(c, 1, 2), 8); v != table.Call("IF", row(other, 2, 1), 8) {
			t.Errorf("IF(%s, 1, 2) = %s", brief(c), brief(v))
		}
	}
}

// R3: a value that is answered may be, and is of its function's kind, or a Fault.
func TestZeroFields(t *testing.T) {
	table, rnd, set := New(), rand.New(rand.NewSource(114)), someArgs()
	for _, name := range ownNames() {
		for range 3000 {
			args := randomArgs(rnd, set)
			v := table.Call(name, args, 8)
			right := modelMay(v)
			switch name {
			case "AND", "OR", "XOR", "NOT", "ISERR", "ISBLANK", "ISNUM", "ISTEXT", "ISBOOL":
				right = right && (v.Tag == api.Bool || v.Tag == api.Fault)
			case "TYPE", "ERRNO":
				right = right && (v.Tag == api.Number || v.Tag == api.Fault)
			case "ERR", "ASK":
				right = right && v.Tag == api.Fault
			}
			if !right {
				t.Errorf("%s(%s) = %s", name, brief(args), brief(v))
			}
		}
	}
}

// R4: arguments that are handed in are as they were, their spare room too.
func TestHandedIn(t *testing.T) {
	handed := func() []api.Arg {
		list := append(boxes()[:5], wrongArgs()...)
		for _, v := range values() {
			list = append(list, api.Arg{Value: v})
		}
		spare := box(3, 2, "x", 1)
		spare.Entries = spare.Entries[:3]
		for i := range 12 {
			list = append(list, spare, row(1, 2, "b")[i%3], box(4, 3, 2, 1))
		}
		return list
	}
	table, args, rects := New(), handed(), make([]bool, 20)
	rects[0], rects[5] = true, true
	kept := slices.Clone(rects)
	for _, name := range allNames() {
		for at := range len(args) - 17 {
			for n := range 18 {
				table.Call(name, args[at:at+n], 8)
			}
		}
		for n := range 20 {
			table.Takes(name, rects[:n])
			table.Takes(name, rects[20-n:])
		}
	}
	if !reflect.DeepEqual(args, handed()) || !slices.Equal(rects, kept) {
		t.Error("what was handed in has changed")
	}
	for _, a := range args {
		if len(a.Entries) == 3 && cap(a.Entries) == 4 && a.Entries[0].Value == wholes(3) && a.Entries[:4][3].Value != wholes(1) {
			t.Error("spare room has changed")
		}
	}
}

// R4: a text that is answered is new memory: it shares no byte with an argument.
func TestNewMemory(t *testing.T) {
	start := func(s string) uintptr { return uintptr(unsafe.Pointer(unsafe.StringData(s))) }
	s := strings.Repeat("AB", 300)
	for _, a := range []ask{
		{"IF", row(true, s), s}, {"IF", row(true, s, 1), s}, {"IF", row(false, 1, s), s}, {"IFERR", row(s, 1), s}, {"IFERR", row(api.CodeDiv, s), s}, {"CHOOSE", row(1, s), s}, {"CHOOSE", row(2, 1, s), s},
		{"UPPER", row(s), s}, {"INDEX", row(box(s), 1, 1), s},
	} {
		v := New().Call(a.name, a.args, 1024)
		if v != wanted(a.want) {
			t.Errorf("%s = %s", a.name, brief(v))
		}
		if at := start(v.Str); at >= start(s) && at < start(s)+uintptr(len(s)) {
			t.Errorf("%s(%s) is a piece of its argument", a.name, brief(a.args))
		}
	}
}

// R5: answers hang on no capacity, nor on what the table was asked before.
func TestAgain(t *testing.T) {
	table, rnd, set := New(), rand.New(rand.NewSource(115)), someArgs()
	for range 20000 {
		name := allNames()[rnd.Intn(66)]
		args := randomArgs(rnd, set)
		roomy := append(make([]api.Arg, 0, 40), args...)
		first, again := table.Call(name, args, 8), table.Call(name, roomy, 8)
		if fresh := New().Call(name, args, 8); first != again || first != fresh {
			t.Fatalf("%s(%s) = %s, then %s, of a new table %s", name, brief(args), brief(first), brief(again), brief(fresh))
		}
	}
}
