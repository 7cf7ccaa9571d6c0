package funcs

import (
	"math/rand"
	"slices"
	"sync"
	"testing"

	"oriel/api"
)

// hands is how many goroutines ask one table at one time.
const hands = 16

// together runs one function in all hands at one time: none begins ahead of the last one's coming.
func together(do func(hand int)) {
	var ready, done sync.WaitGroup
	ready.Add(hands)
	for hand := range hands {
		done.Go(func() {
			ready.Done()
			ready.Wait()
			do(hand)
		})
	}
	done.Wait()
}

// Side by side, for the first time: each call of each kind is answered as it would be alone, whoever makes the index.
func TestSideFirst(t *testing.T) {
	want := allNames()
	kinds := []func(table *Table, hand int) bool{
		func(table *Table, hand int) bool { return slices.Equal(table.Names(), want) },
		func(table *Table, hand int) bool { return table.Known(want[hand]) && !table.Known("NONE") },
		func(table *Table, hand int) bool {
			return table.Takes("SUM", []bool{true}) && !table.Takes("IF", []bool{false})
		},
		func(table *Table, hand int) bool {
			return table.Call("SUM", row(hand, 1), 8) == wholes(int64(hand+1))
		},
		func(table *Table, hand int) bool {
			return table.Call("IF", row(true, hand), 8) == wholes(int64(hand))
		},
	}
	for round := range 500 {
		table := New()
		var right [hands]bool
		together(func(hand int) {
			// All hands ask the same in some rounds, each something else in the others.
			kind := round % (len(kinds) + 1)
			if kind == len(kinds) {
				kind = (round + hand) % len(kinds)
			}
			right[hand] = kinds[kind](table, hand)
		})
		if slices.Contains(right[:], false) {
			t.Fatalf("round %d: %v", round, right)
		}
	}
}

// Side by side, later: many calls, each held against what it was told alone.
func TestSideLater(t *testing.T) {
	type before struct {
		name  string
		args  []api.Arg
		want  api.Value
		taken bool
	}
	rnd, set := rand.New(rand.NewSource(116)), someArgs()
	var list []before
	alone := New()
	for _, name := range append(allNames(), "", "NONE", "if") {
		for range 60 {
			args := randomArgs(rnd, set)
			list = append(list, before{name, args, alone.Call(name, args, 8), alone.Takes(name, make([]bool, len(args)))})
		}
	}
	for _, table := range []*Table{alone, New()} {
		together(func(hand int) {
			for _, i := range rand.New(rand.NewSource(int64(hand))).Perm(len(list)) {
				one := list[i]
				if v := table.Call(one.name, one.args, 8); v != one.want {
					t.Errorf("%s(%s) = %s; alone %s", one.name, brief(one.args), brief(v), brief(one.want))
				}
				if table.Takes(one.name, make([]bool, len(one.args))) != one.taken || table.Known(one.name) != slices.Contains(allNames(), one.name) {
					t.Errorf("Takes, Known of %q are told otherwise side by side", one.name)
				}
			}
		})
	}
}

// Side by side: names that one hand writes into are another's as they were.
func TestSideNames(t *testing.T) {
	table := New()
	together(func(hand int) {
		for range 200 {
			names := table.Names()
			if !slices.Equal(names, allNames()) {
				t.Errorf("Names() = %q", names)
			}
			spare := names[:cap(names)]
			for i := range spare {
				spare[i] = "NONE"
			}
		}
	})
	if !slices.Equal(table.Names(), allNames()) {
		t.Errorf("Names() = %q", table.Names())
	}
}
