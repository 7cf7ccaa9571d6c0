package deps

import (
	"reflect"
	"slices"
	"sync"
	"testing"

	"oriel/api"
)

// checkInside fails the test, unless both sides keep just what the model has, without room for more.
func checkInside(t *testing.T, d *Deps, m *model) {
	t.Helper()
	from, cells := map[api.Cell]int{}, map[api.Cell]int{}
	for _, e := range m.edges {
		from[e.From]++
		if !e.To.Many {
			cells[cell(e.To.Rect.Top, e.To.Rect.Left)]++
		}
	}
	if len(d.from) != len(from) || len(d.to.cells) != len(cells) {
		t.Fatalf("%d cells have references and %d are referred to; want %d and %d", len(d.from), len(d.to.cells), len(from), len(cells))
	}
	for c, refs := range d.from {
		if len(refs) != from[c] {
			t.Fatalf("%v has %d references; want %d", c, len(refs), from[c])
		}
		spare(t, "references", refs)
	}
	for c, by := range d.to.cells {
		if len(by) != cells[c] {
			t.Fatalf("%d cells refer to %v; want %d", len(by), c, cells[c])
		}
		spare(t, "who refers to a cell", by)
	}
}

// spare fails the test, if a list has far more room than it needs.
func spare[T any](t *testing.T, what string, list []T) {
	t.Helper()
	if cap(list) > 4*len(list)+8 {
		t.Fatalf("%s: room for %d of %d", what, cap(list), len(list))
	}
}

// P17.1: what was set ahead leaves nothing behind: when all is set to none, it is as new.
func TestNothingBehind(t *testing.T) {
	for seed := range int64(20) {
		d, m := filled(t, mixed(seed, someGiven()))
		checkInside(t, d, m)
		for _, g := range mixed(seed+100, someGiven()) {
			sets(t, d, m, g.by, nil, api.OK)
			checkInside(t, d, m)
		}
		if !reflect.DeepEqual(d, New()) {
			t.Fatal("something is left")
		}
		check(t, d, m, goodCells())
	}
}

// P17.1: behind references that came and went it is as if they had never come.
func TestAsNever(t *testing.T) {
	all := mixed(8, someGiven())
	want, m := filled(t, all[:8])
	for seed := range int64(20) {
		d := New()
		for _, g := range mixed(seed, all) {
			d.Set(g.by, mixed(seed, goodRefs()))
			d.Set(g.by, g.refs)
		}
		for _, g := range mixed(seed+50, all[8:]) {
			d.Set(g.by, nil)
		}
		if !reflect.DeepEqual(d, want) {
			t.Fatal("another state than without what came and went")
		}
		check(t, d, m, goodCells())
	}
}

// What is refused, or asked, keeps nothing.
func TestRefusedKeepsNothing(t *testing.T) {
	d := New()
	for _, c := range append(goodCells(), wrongCells()...) {
		for _, ref := range wrongRefs()[:40] {
			d.Set(c, these(one(1, 1), whole(), ref))
		}
		d.Direct(c)
	}
	for _, c := range wrongCells() {
		d.Set(c, goodRefs())
	}
	d.Edges()
	d.Back()
	if !reflect.DeepEqual(d, New()) {
		t.Error("something is kept")
	}
}

// What was set ahead leaves no room behind, neither of many who referred to a cell nor of a list that had a reference many times.
func TestRoom(t *testing.T) {
	d, m := New(), &model{}
	for row := 1; row <= 4096; row++ {
		d.Set(cell(row, 5), these(one(7, 7)))
	}
	for row := 1; row < 4096; row++ {
		d.Set(cell(4097-row, 5), nil)
		spare(t, "who refers to G7", d.to.cells[cell(7, 7)])
	}
	m.set(cell(1, 5), these(one(7, 7)))
	checkInside(t, d, m)
	sets(t, d, m, cell(2, 2), slices.Repeat(these(one(1, 1), many(1, 1, 1, 1)), 5000), api.OK)
	checkInside(t, d, m)
	sets(t, d, m, cell(2, 2), manyRefs(2000), api.OK)
	sets(t, d, m, cell(2, 2), manyRefs(1), api.OK)
	checkInside(t, d, m)
}

// R5: two Deps know nothing of one another.
func TestTwoDeps(t *testing.T) {
	a, b := New(), New()
	ma, mb := &model{}, &model{}
	for i, g := range mixed(1, someGiven()) {
		sets(t, a, ma, g.by, g.refs, api.OK)
		check(t, b, mb, goodCells()[:20])
		if i%2 == 0 {
			sets(t, b, mb, g.by, g.refs[:1], api.OK)
		}
		sets(t, b, mb, cell(i+3, 9), g.refs, api.OK)
	}
	for i, g := range someGiven() {
		if i%3 == 0 {
			sets(t, a, ma, g.by, nil, api.OK)
		}
	}
	check(t, a, ma, goodCells())
	check(t, b, mb, goodCells())
}

// R4: references that are handed in are not changed, their spare room neither, nor are they kept: who writes into them behind a Set changes nothing.
func TestHandedIn(t *testing.T) {
	d, m := New(), &model{}
	for i, g := range someGiven() {
		spareRoom := these(one(11, 11), many(12, 12, 14, 14), one(3, 3))
		refs := slices.Concat(mixed(int64(i), append(g.refs, g.refs...)), spareRoom)
		before, n := slices.Clone(refs), len(refs)-len(spareRoom)
		sets(t, d, m, g.by, refs[:n], api.OK)
		d.Set(cell(0, 0), refs[:n])
		d.Set(g.by, append(refs[:n-1:n-1], api.Ref{}))
		if !slices.Equal(refs, before) {
			t.Fatalf("%v is changed to %v", before, refs)
		}
		for j := range refs {
			refs[j] = many(20, 20, 30, 30)
		}
		check(t, d, m, goodCells())
		sets(t, d, m, cell(g.by.Row, 9), nil, api.OK)
	}
	checkInside(t, d, m)
	for _, g := range someGiven() {
		sets(t, d, m, g.by, nil, api.OK)
	}
	if !reflect.DeepEqual(d, New()) {
		t.Error("something is left")
	}
}

// R4: one list that two cells are given is had by each for itself.
func TestOneListTwoCells(t *testing.T) {
	d, m := New(), &model{}
	refs := goodRefs()
	sets(t, d, m, cell(5, 5), refs, api.OK)
	sets(t, d, m, cell(6, 6), refs, api.OK)
	sets(t, d, m, cell(5, 5), refs[:3], api.OK)
	check(t, d, m, goodCells())
	sets(t, d, m, cell(6, 6), nil, api.OK)
	check(t, d, m, goodCells())
}

// overwrite writes into a list, and into its spare room.
func overwrite[T any](list []T, with T) {
	list = list[:cap(list)]
	for i := range list {
		list[i] = with
	}
}

// R4: lists that are answered, with their spare room, are new memory: who writes into them changes nothing, neither of what is kept nor of other answers.
func TestAnswersAreNew(t *testing.T) {
	d, m := filled(t, someGiven())
	for _, c := range append(goodCells(), cell(64, 27)) {
		direct, other := d.Direct(c), d.Direct(c)
		overwrite(direct, cell(-1, -1))
		if !slices.Equal(other, m.direct(c)) {
			t.Fatalf("two answers of Direct(%v) share memory", c)
		}
		checkDirect(t, d, c, m.direct(c)...)
	}
	edges, back, edges2, back2 := d.Edges(), d.Back(), d.Edges(), d.Back()
	overwrite(edges, api.Edge{From: cell(1, 1), To: one(1, 1)})
	overwrite(back, api.Edge{From: cell(2, 2), To: whole()})
	if !slices.Equal(edges2, m.sorted()) || !slices.Equal(back2, m.sorted()) {
		t.Error("two answers share memory")
	}
	check(t, d, m, goodCells())
	checkInside(t, d, m)
	for _, g := range someGiven() {
		sets(t, d, m, g.by, g.refs[1:], api.OK)
	}
	check(t, d, m, goodCells())
}

// R4: what was answered stays as it is, whatever is set behind it.
func TestAnswersStay(t *testing.T) {
	d, m := filled(t, someGiven())
	c := cell(64, 27)
	direct, edges, back := d.Direct(c), d.Edges(), d.Back()
	wantDirect, want := m.direct(c), m.sorted()
	for i, g := range mixed(2, someGiven()) {
		sets(t, d, m, g.by, nil, api.OK)
		sets(t, d, m, cell(3, 1+i), these(whole(), one(64, 27)), api.OK)
	}
	if !slices.Equal(direct, wantDirect) || !slices.Equal(edges, want) || !slices.Equal(back, want) {
		t.Error("what was answered is changed by what came behind it")
	}
}

// R5: Deps that are asked side by side, each by one hand, share nothing, not even a list that all are given.
func TestSideDeps(t *testing.T) {
	var all sync.WaitGroup
	want, _ := filled(t, someGiven())
	edges, given := want.Edges(), someGiven()
	for hand := range 16 {
		all.Go(func() {
			d := New()
			for _, g := range mixed(int64(hand), given) {
				d.Set(g.by, g.refs)
			}
			if !slices.Equal(d.Edges(), edges) || !slices.Equal(d.Back(), edges) {
				t.Errorf("the hand %d has other references", hand)
			}
			for _, g := range mixed(int64(hand+50), given) {
				ref := g.refs[0].Rect
				if !slices.Contains(d.Direct(cell(ref.Top, ref.Left)), g.by) || d.Set(g.by, nil) != api.OK {
					t.Errorf("the hand %d does not find %v", hand, g.by)
				}
			}
			if len(d.Edges()) != 0 || len(d.Back()) != 0 {
				t.Errorf("the hand %d has references left", hand)
			}
		})
	}
	all.Wait()
}
