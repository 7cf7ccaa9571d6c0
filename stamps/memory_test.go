package stamps

import (
	"math/rand"
	"reflect"
	"slices"
	"sync"
	"testing"

	"oriel/api"
)

// P18.3: what is dropped leaves nothing behind; behind all Drops no cell has stamps.
func TestNothingBehind(t *testing.T) {
	p := newPlay(t, 30, goodCells()...)
	for i, c := range goodCells() {
		p.changes(c)
		p.see(goodCells()[i/2])
	}
	for i, c := range goodCells() {
		p.drop(c)
		if n := len(p.k.cells); n != len(goodCells())-i-1 {
			t.Fatalf("%d cells have stamps", n)
		}
	}
	tells(t, p.k, len(goodCells()), 0)
	want := newClock(t, 30)
	want.last = len(goodCells())
	if !reflect.DeepEqual(p.k, want) {
		t.Error("something is left")
	}
}

// What is refused, or asked, keeps nothing.
func TestRefusedKeepsNothing(t *testing.T) {
	k := newClock(t, 30)
	for _, c := range wrongCells() {
		k.Change(c)
		k.See(c)
		k.Drop(c)
	}
	for _, c := range slices.Concat(goodCells(), wrongCells()) {
		k.Get(c)
		k.Newer(c, a(1))
		k.Newer(a(1), c)
		k.Drop(c)
	}
	if !reflect.DeepEqual(k, newClock(t, 30)) {
		t.Error("something is kept")
	}
}

// R4: stamps that were answered stay as they are, whatever comes behind, and who writes into them changes nothing.
func TestAnswersStay(t *testing.T) {
	k := newClock(t, 4)
	k.Change(a(1))
	k.Change(a(2))
	k.See(a(2))
	one, _ := k.Get(a(1))
	two, _ := k.Get(a(2))
	k.Change(a(1))
	k.See(a(1))
	k.Change(a(1))
	if one != (api.Stamps{Changed: 1}) || two != (api.Stamps{Changed: 2, Seen: 2}) {
		t.Errorf("they are %v and %v now", one, two)
	}
	has(t, k, a(2), 1, 1)
	one.Changed, two.Seen = 77, 77
	has(t, k, a(1), 2, 1)
	has(t, k, a(2), 1, 1)
}

// R5: the same calls tell the same, however often: in no order of a map's keys.
func TestAgain(t *testing.T) {
	told := func() state {
		p, rnd := newPlay(t, 20), rand.New(rand.NewSource(5))
		for range 2000 {
			anyCall(rnd, p, goodCells())
		}
		return stateOf(p.k)
	}
	want := told()
	if want.turns < 20 {
		t.Fatalf("numbered anew %d times", want.turns)
	}
	for range 20 {
		if !reflect.DeepEqual(told(), want) {
			t.Fatal("the same calls have told something else")
		}
	}
}

// R5: two clocks know nothing of one another.
func TestTwoClocks(t *testing.T) {
	cells := []api.Cell{a(1), a(2), a(3), cell(1, 2)}
	p, q := newPlay(t, 5, cells...), newPlay(t, 5, cells...)
	rnd := rand.New(rand.NewSource(3))
	for i := range 500 {
		anyCall(rnd, p, cells)
		q.check("another clock was told something")
		if i%3 == 0 {
			anyCall(rnd, q, cells)
			p.check("another clock was told something")
		}
	}
}

// R5: clocks that are asked side by side, each by one hand, share nothing.
func TestSideClocks(t *testing.T) {
	play := func() state {
		k, _ := New(20)
		rnd := rand.New(rand.NewSource(9))
		for range 2000 {
			c := goodCells()[rnd.Intn(len(goodCells()))]
			switch rnd.Intn(8) {
			case 0, 1:
				k.See(c)
			case 2:
				k.Drop(c)
			default:
				k.Change(c)
			}
		}
		return stateOf(k)
	}
	want := play()
	var all sync.WaitGroup
	for hand := range 16 {
		all.Go(func() {
			if !reflect.DeepEqual(play(), want) {
				t.Errorf("the hand %d has other stamps", hand)
			}
		})
	}
	all.Wait()
}
