package deps

import (
	"math/rand"
	"slices"
	"testing"

	"oriel/api"
)

// edges are references of one cell.
func edges(by api.Cell, refs ...api.Ref) []api.Edge {
	var list []api.Edge
	for _, ref := range refs {
		list = append(list, api.Edge{From: by, To: ref})
	}
	return list
}

// grouped are edges by the cells that have them, each cell once.
func grouped(list []api.Edge) []given {
	var all []given
	for _, e := range list {
		i := slices.IndexFunc(all, func(g given) bool { return g.by == e.From })
		if i < 0 {
			i, all = len(all), append(all, given{by: e.From})
		}
		all[i].refs = append(all[i].refs, e.To)
	}
	return all
}

// P17.3: the order of Edges and Back, of references that differ in one number alone, and of such in which a later number would tell otherwise.
func TestOrderOfEdges(t *testing.T) {
	by := cell(7, 7)
	for name, ordered := range map[string][]api.Edge{
		"row, cells":            slices.Concat(edges(cell(7, 7), one(5, 5)), edges(cell(8, 7), one(5, 5)), edges(cell(10, 7), one(5, 5)), edges(cell(100, 7), one(5, 5))),
		"row, rectangles":       slices.Concat(edges(cell(7, 7), many(5, 5, 9, 9)), edges(cell(8, 7), many(5, 5, 9, 9)), edges(cell(10, 7), many(5, 5, 9, 9)), edges(cell(100, 7), many(5, 5, 9, 9))),
		"col, cells":            slices.Concat(edges(cell(7, 7), one(5, 5)), edges(cell(7, 8), one(5, 5)), edges(cell(7, 10), one(5, 5)), edges(cell(7, 100), one(5, 5))),
		"col, rectangles":       slices.Concat(edges(cell(7, 7), many(5, 5, 9, 9)), edges(cell(7, 8), many(5, 5, 9, 9)), edges(cell(7, 10), many(5, 5, 9, 9)), edges(cell(7, 100), many(5, 5, 9, 9))),
		"top":                   edges(by, many(1, 5, 9, 9), many(2, 5, 9, 9), many(5, 5, 9, 9), many(9, 5, 9, 9)),
		"left":                  edges(by, many(5, 1, 9, 9), many(5, 2, 9, 9), many(5, 5, 9, 9), many(5, 9, 9, 9)),
		"bottom":                edges(by, many(5, 5, 5, 9), many(5, 5, 9, 9), many(5, 5, 10, 9), many(5, 5, 4096, 9)),
		"right":                 edges(by, many(5, 5, 9, 5), many(5, 5, 9, 9), many(5, 5, 9, 10), many(5, 5, 9, 256)),
		"many":                  edges(by, one(5, 5), many(5, 5, 5, 5)),
		"cells by rows":         edges(by, one(1, 5), one(2, 5), one(10, 5), one(4096, 5)),
		"cells by columns":      edges(by, one(5, 1), one(5, 2), one(5, 10), one(5, 256)),
		"row ahead of col":      slices.Concat(edges(cell(7, 8), many(5, 5, 9, 9), many(6, 5, 9, 9)), edges(cell(8, 7), many(5, 5, 9, 9))),
		"row, col ahead of all": slices.Concat(edges(cell(7, 9), many(9, 9, 9, 9)), edges(cell(8, 8), many(8, 8, 8, 8)), edges(cell(8, 9), one(2, 2)), edges(cell(9, 1), one(1, 1))),
		"top ahead of left":     edges(by, many(5, 6, 9, 9), many(6, 5, 9, 9)),
		"left ahead of bottom":  edges(by, many(5, 5, 10, 9), many(5, 6, 9, 9)),
		"bottom ahead of right": edges(by, many(5, 5, 9, 10), many(5, 5, 10, 9)),
		"many last of all":      edges(by, one(5, 5), many(5, 5, 5, 5), many(5, 5, 5, 6), many(5, 5, 6, 5), one(5, 6), many(5, 6, 5, 6), many(5, 6, 9, 9), one(6, 1), one(6, 5), many(6, 5, 6, 5)),
		"many ahead of one":     edges(by, many(1, 1, 1, 1), many(1, 1, 1, 2), one(1, 2), many(1, 2, 4096, 2), one(2, 1)),
	} {
		for seed := range int64(12) {
			d := New()
			for _, g := range mixed(seed, grouped(mixed(seed, ordered))) {
				if d.Set(g.by, g.refs) != api.OK {
					t.Fatalf("%s: refused", name)
				}
			}
			if !slices.Equal(d.Edges(), ordered) || !slices.Equal(d.Back(), ordered) {
				t.Errorf("%s: Edges %v, Back %v; want %v", name, d.Edges(), d.Back(), ordered)
			}
		}
	}
}

// P17.2: Direct tells cells by their rows, then by their columns, in whatever order they came, and however they refer to the cell.
func TestOrderOfDirect(t *testing.T) {
	cells := []api.Cell{cell(1, 255), cell(1, 256), cell(2, 1), cell(2, 2), cell(10, 9), cell(10, 10), cell(63, 256), cell(64, 1), cell(64, 256), cell(65, 1), cell(100, 3), cell(4096, 1), cell(4096, 256)}
	kinds := these(one(64, 27), many(64, 27, 64, 27), many(1, 27, 4096, 27), whole(), many(60, 20, 64, 27))
	for seed := range int64(30) {
		rnd := rand.New(rand.NewSource(seed))
		d := New()
		for _, by := range mixed(seed, cells) {
			d.Set(by, mixed(seed, kinds)[:1+rnd.Intn(5)])
		}
		checkDirect(t, d, cell(64, 27), cells...)
		d.Set(cells[4], nil)
		checkDirect(t, d, cell(64, 27), slices.Concat(cells[:4], cells[5:])...)
	}
}

// P17.2: a cell is told once, however many of its references the place is in, and as long as it is in one of them.
func TestDirectOnce(t *testing.T) {
	a, b := cell(5, 6), cell(6, 5)
	refs := these(one(64, 27), many(64, 27, 64, 27), whole(), many(64, 1, 64, 256), many(1, 27, 4096, 27), many(63, 26, 65, 28), many(1, 1, 64, 27), one(64, 28), many(65, 27, 65, 27))
	for seed := range int64(20) {
		d := New()
		d.Set(b, these(one(64, 27)))
		turns := mixed(seed, refs)
		for n := range turns {
			d.Set(a, turns[:n])
			want := []api.Cell{a, b}
			if !slices.ContainsFunc(turns[:n], func(ref api.Ref) bool { return has(ref.Rect, cell(64, 27)) }) {
				want = want[1:]
			}
			checkDirect(t, d, cell(64, 27), want...)
		}
		for _, ref := range refs {
			d.Set(a, these(ref))
			if has(ref.Rect, cell(64, 27)) {
				checkDirect(t, d, cell(64, 27), a, b)
			} else {
				checkDirect(t, d, cell(64, 27), b)
			}
		}
	}
}

// P17.4: Edges and Back are the same behind every call, those that are refused and those that tell among them.
func TestBothSides(t *testing.T) {
	for seed := range int64(20) {
		rnd := rand.New(rand.NewSource(seed))
		d := New()
		for range 200 {
			var refs []api.Ref
			for range rnd.Intn(6) {
				refs = append(refs, anyRef(rnd))
			}
			d.Set(anyCell(rnd), refs)
			if edges, back := d.Edges(), d.Back(); !slices.Equal(edges, back) {
				t.Fatalf("Edges %s, Back %s", begin(edges), begin(back))
			}
			d.Direct(anyCell(rnd))
			if edges, back := d.Edges(), d.Back(); !slices.Equal(edges, back) {
				t.Fatalf("behind Direct: Edges %s, Back %s", begin(edges), begin(back))
			}
		}
	}
}

// P17.5: a is one of Direct(b) just if b is in one of a's references, as Edges tells them.
func TestTurnedRound(t *testing.T) {
	d, _ := filled(t, mixed(3, someGiven()))
	from := map[api.Cell][]api.Ref{}
	for _, e := range d.Edges() {
		from[e.From] = append(from[e.From], e.To)
	}
	for _, b := range append(goodCells(), wrongCells()...) {
		direct := d.Direct(b)
		for _, a := range append(goodCells(), wrongCells()[:40]...) {
			is := slices.ContainsFunc(from[a], func(ref api.Ref) bool { return has(ref.Rect, b) })
			if slices.Contains(direct, a) != is {
				t.Fatalf("%v is one of Direct(%v): %v; by its references %v", a, b, !is, is)
			}
		}
	}
}

// R5: the order in which cells were set does not matter, nor what they had between.
func TestOrderOfSets(t *testing.T) {
	want, m := filled(t, someGiven())
	check(t, want, m, goodCells())
	for seed := range int64(20) {
		rnd := rand.New(rand.NewSource(seed))
		d := New()
		for _, g := range mixed(seed, someGiven()) {
			if rnd.Intn(2) == 0 {
				d.Set(g.by, mixed(seed, goodRefs())[:rnd.Intn(9)])
			}
			passing := cell(1+rnd.Intn(3), 30+rnd.Intn(3))
			d.Set(passing, mixed(seed, g.refs))
			if d.Set(g.by, mixed(seed, g.refs)) != api.OK || d.Set(passing, nil) != api.OK {
				t.Fatalf("Set(%v) is refused", g.by)
			}
		}
		checkEdges(t, d, want.Edges()...)
		check(t, d, m, goodCells())
	}
}

// P17.3: Edges tells what is kept by the cells that refer, Back what is kept by what they refer to: what one side alone has, the other does not tell.
func TestEachItsOwnSide(t *testing.T) {
	by := cell(7, 7)
	for _, ref := range goodRefs() {
		d := New()
		d.Set(by, these(ref))
		d.to.remove(ref, by)
		if !slices.Equal(d.Edges(), edges(by, ref)) || len(d.Back()) != 0 {
			t.Fatalf("kept by who refers: Edges %v, Back %v", d.Edges(), d.Back())
		}
		d.to.add(ref, by)
		delete(d.from, by)
		if !slices.Equal(d.Back(), edges(by, ref)) || len(d.Edges()) != 0 {
			t.Fatalf("kept by what is referred to: Edges %v, Back %v", d.Edges(), d.Back())
		}
	}
}
