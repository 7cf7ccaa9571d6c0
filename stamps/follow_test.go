package stamps

import (
	"math/rand"
	"slices"
	"testing"

	"oriel/api"
)

// happened is a call that a clock was told, of a cell.
type happened struct {
	call string
	cell api.Cell
}

// lastOf is the place of the last call of that name of a cell behind the one at a place, -1 if there is none.
func lastOf(log []happened, call string, c api.Cell, behind int) int {
	for i := len(log) - 1; i > behind; i-- {
		if log[i] == (happened{call, c}) {
			return i
		}
	}
	return -1
}

// since tells whether p changed behind x's last look, each since it was dropped last, by what happened alone.
func since(log []happened, p, x api.Cell) bool {
	changed := lastOf(log, "change", p, lastOf(log, "drop", p, -1))
	return changed >= 0 && changed > lastOf(log, "see", x, lastOf(log, "drop", x, -1))
}

// teller tells clocks the same, and keeps what it told.
type teller struct {
	t     *testing.T
	all   []*Clock
	log   []happened
	cells []api.Cell
}

func newTeller(t *testing.T, cells []api.Cell, mosts ...int) *teller {
	tell := &teller{t: t, cells: cells}
	for _, most := range mosts {
		tell.all = append(tell.all, newClock(t, most))
	}
	return tell
}

// tell is one call of each clock, none of them refused.
func (tell *teller) tell(call string, c api.Cell) {
	tell.t.Helper()
	tell.log = append(tell.log, happened{call, c})
	for _, k := range tell.all {
		switch call {
		case "change":
			if code := k.Change(c); code != api.OK {
				tell.t.Fatalf("most %d: Change(%v) = %d", k.most, c, code)
			}
		case "see":
			k.See(c)
		case "drop":
			k.Drop(c)
		}
	}
}

// any is any call, of any of the cells.
func (tell *teller) any(rnd *rand.Rand) {
	tell.t.Helper()
	calls := []string{"change", "change", "change", "change", "see", "see", "see", "drop"}
	tell.tell(calls[rnd.Intn(len(calls))], tell.cells[rnd.Intn(len(tell.cells))])
}

// check fails the test, unless each clock tells of each two cells what happened.
func (tell *teller) check() {
	tell.t.Helper()
	for _, p := range tell.cells {
		for _, x := range tell.cells {
			want := since(tell.log, p, x)
			for _, k := range tell.all {
				if k.Newer(p, x) != want {
					tell.t.Fatalf("most %d, behind %d calls: Newer(%v, %v) = %v", k.most, len(tell.log), p, x, !want)
				}
			}
		}
	}
}

// What follows: Newer tells whether p changed behind x's last look, the same with each bound, as long as no Change is refused.
func TestNewerWhateverMost(t *testing.T) {
	for count := 1; count <= 7; count++ {
		rnd := rand.New(rand.NewSource(int64(count)))
		tell := newTeller(t, goodCells()[:count], count+1, count+2, count+3, 2*count+1, 100, api.MaxStamp)
		for range 400 {
			tell.any(rnd)
			tell.check()
		}
		if tell.all[0].Turns() < 50 || tell.all[4].Turns() == 0 || tell.all[5].Turns() != 0 {
			t.Fatalf("%d cells: numbered anew %d, %d, %d times", count, tell.all[0].Turns(), tell.all[4].Turns(), tell.all[5].Turns())
		}
	}
}

// What follows: of a cell that was dropped Newer tells what came since then: as p it has not changed, as x it has not looked, also when all is numbered anew between.
func TestNewerDropped(t *testing.T) {
	p, x, other := a(1), a(2), a(3)
	for turns := range 10 {
		tell := newTeller(t, []api.Cell{p, x, other}, 4, 5, 6, 7, 1000)
		between := func() {
			for range turns {
				tell.tell("change", other)
				tell.check()
			}
		}
		for _, h := range []happened{{"change", p}, {"see", x}, {"drop", x}, {"see", x}, {"drop", p}, {"change", p}, {"drop", p}, {"see", p}, {"change", p}, {"see", x}, {"drop", x}, {"drop", p}} {
			tell.tell(h.call, h.cell)
			tell.check()
			between()
		}
	}
}

// checkNumbers fails the test, unless no two cells have one Changed above 0, and no stamp is above Last, which is below most.
func checkNumbers(t *testing.T, k *Clock, most int, cells []api.Cell) {
	t.Helper()
	if k.Last() < 0 || k.Last() >= most {
		t.Fatalf("most %d: Last %d", most, k.Last())
	}
	owner := map[int]api.Cell{}
	for _, c := range cells {
		s, is := k.Get(c)
		if s.Changed < 0 || s.Changed > k.Last() || s.Seen < 0 || s.Seen > k.Last() {
			t.Fatalf("most %d, Last %d: %v has %v", most, k.Last(), c, s)
		}
		if other, two := owner[s.Changed]; two && is && s.Changed > 0 {
			t.Fatalf("most %d: %v and %v have one number: %d", most, other, c, s.Changed)
		}
		owner[s.Changed] = c
	}
}

// What follows: no two cells have one number, and every stamp is below most, however many calls there were, refused ones too.
func TestNumbers(t *testing.T) {
	for most := 2; most <= 30; most++ {
		cells := goodCells()[:min(most+1, 24)]
		k, rnd := newClock(t, most), rand.New(rand.NewSource(int64(most)))
		for range 3000 {
			c := cells[rnd.Intn(len(cells))]
			switch rnd.Intn(8) {
			case 0, 1, 2:
				k.See(c)
			case 3:
				k.Drop(c)
			default:
				k.Change(c)
			}
			checkNumbers(t, k, most, cells)
		}
		if k.Turns() == 0 {
			t.Fatalf("most %d: nothing was numbered anew", most)
		}
	}
}

// P18.2: when all is numbered anew, the order of the numbers stays: what changed ahead of another one still stands ahead of it.
func TestOrderStays(t *testing.T) {
	cells := goodCells()
	k, rnd := newClock(t, len(cells)+2), rand.New(rand.NewSource(1))
	var order []api.Cell // by their last changes
	for range 3000 {
		c := cells[rnd.Intn(len(cells))]
		k.Change(c)
		order = append(slices.DeleteFunc(order, func(o api.Cell) bool { return o == c }), c)
		for i := 1; i < len(order); i++ {
			before, _ := k.Get(order[i-1])
			behind, _ := k.Get(order[i])
			if before.Changed >= behind.Changed {
				t.Fatalf("%v has %v, %v has %v", order[i-1], before, order[i], behind)
			}
		}
		has(t, k, c, k.Last(), 0)
	}
}

// P18.2: as many cells as a sheet may have, and two numbers more: each row of changes is numbered anew as often as it must be, and each cell has its number behind it.
func TestFullSheet(t *testing.T) {
	k := newClock(t, api.MaxCells+2)
	var cells []api.Cell
	for row := 1; row <= api.MaxCells; row++ {
		cells = append(cells, cell(row, 1+row*37%256))
	}
	for _, c := range cells {
		k.Change(c)
		k.See(c)
	}
	tells(t, k, 4096, 0)
	for i, c := range cells[:600] {
		if code := k.Change(c); code != api.OK {
			t.Fatalf("Change(%v) = %d", c, code)
		}
		if !k.Newer(c, cells[i+1]) || !k.Newer(cells[i+1], c) {
			t.Fatalf("%v and the one behind it have both changed since the other one looked", c)
		}
		k.See(c)
		if k.Newer(c, c) || k.Newer(cells[i+1], c) {
			t.Fatalf("%v has just looked", c)
		}
	}
	tells(t, k, 4096, 300)
	checkNumbers(t, k, api.MaxCells+2, cells)
	has(t, k, cells[600], 1, 1)
	has(t, k, cells[4095], 3496, 3496)
	has(t, k, cells[0], 3497, 3497)
	has(t, k, cells[599], 4096, 4096)
}
