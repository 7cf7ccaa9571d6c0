package marks

import (
	"math/rand"
	"reflect"
	"slices"
	"sync"
	"testing"

	"oriel/api"
	"oriel/deps"
)

// overwrite writes into a list, and into its spare room.
func overwrite(list []api.Mark) {
	list = list[:cap(list)]
	for i := range list {
		list[i] = api.Mark{Cell: cell(-1, -1), State: 77}
	}
}

// R4: lists that are answered, with their spare room, are new memory: who writes into them changes nothing, neither states nor other answers.
func TestAnswersAreNew(t *testing.T) {
	for n := 0; n <= 40; n++ {
		p := newPlay(t)
		for row := 2; row <= n+1; row++ {
			p.put(a(row), one(a(row-1)))
		}
		p.clean(a(3), a(7))
		one, other := p.k.All(), p.k.All()
		overwrite(one)
		if !slices.Equal(other, p.m.sorted()) {
			t.Fatalf("%d states: two answers share memory", n)
		}
		p.check("a list was written into")
		p.touch(a(1), false)
	}
}

// R4: what was answered stays as it is, whatever is called behind it.
func TestAnswersStay(t *testing.T) {
	p := newPlay(t)
	for row := 2; row <= 30; row++ {
		p.put(a(row), one(a(row-1)))
	}
	p.clean(a(5), a(9))
	got, want := p.k.All(), p.m.sorted()
	p.cleanAll()
	for row := 2; row <= 30; row += 3 {
		p.drop(a(row))
	}
	if !slices.Equal(got, want) {
		t.Errorf("it is changed to %v", got)
	}
}

// P19.2: cells without formulas leave nothing behind: when none has one any more, the marks are as new ones.
func TestNothingBehind(t *testing.T) {
	for seed := range int64(20) {
		rnd, p := rand.New(rand.NewSource(seed)), newPlay(t)
		for range 60 {
			p.put(cell(1+rnd.Intn(6), 1+rnd.Intn(6)), anyRefs(rnd, 6, 6)...)
			p.look(cell(1+rnd.Intn(6), 1+rnd.Intn(6)))
		}
		for _, c := range mixed(seed, cross(upTo(6), upTo(6))) {
			p.drop(c)
		}
		p.has(0)
		if !reflect.DeepEqual(p.k, New(deps.New())) {
			t.Fatal("something is left")
		}
	}
}

// What is asked, and a Touch or a Clean that does nothing, keeps nothing.
func TestAskedKeepsNothing(t *testing.T) {
	k := New(deps.New())
	for _, c := range slices.Concat(goodCells(), wrongCells()) {
		k.State(c)
		k.Clean(c)
		k.Touch(c, false)
		k.Touch(cell(0, c.Col), true)
		k.All()
		k.Peak()
	}
	if !reflect.DeepEqual(k, New(deps.New())) {
		t.Error("something is kept")
	}
}

// R5: two marks over one Deps have each their own states; so have two over two.
func TestTwoMarks(t *testing.T) {
	d := deps.New()
	one, two := New(d), New(d)
	d.Set(a(2), ones(a(1)))
	one.Touch(a(1), false)
	two.Touch(a(2), true)
	two.Clean(a(2))
	if !slices.Equal(one.All(), []api.Mark{due(a(2))}) || !slices.Equal(two.All(), []api.Mark{clean(a(2))}) || one.Peak() != 1 || two.Peak() != 0 {
		t.Errorf("%v %d, %v %d", one.All(), one.Peak(), two.All(), two.Peak())
	}
	rnd, p, q := rand.New(rand.NewSource(1)), newPlay(t), newPlay(t)
	for range 300 {
		p.put(cell(1+rnd.Intn(4), 1+rnd.Intn(4)), anyRefs(rnd, 4, 4)...)
		q.check("other marks were told something")
		q.drop(cell(1+rnd.Intn(4), 1+rnd.Intn(4)))
		q.put(cell(1+rnd.Intn(4), 1+rnd.Intn(4)), anyRefs(rnd, 4, 4)...)
		p.check("other marks were told something")
	}
}

// told is what marks tell behind each call of a row of calls.
type told struct {
	all  []api.Mark
	peak int
}

// tell is a row of calls, the same for the same seed.
func tell(seed int64) []told {
	d, rnd := deps.New(), rand.New(rand.NewSource(seed))
	k := New(d)
	var list []told
	for range 300 {
		c := cell(1+rnd.Intn(6), 1+rnd.Intn(6))
		switch rnd.Intn(3) {
		case 0:
			for _, s := range k.All() {
				k.Clean(s.Cell)
			}
		case 1:
			d.Set(c, anyRefs(rnd, 6, 6))
			k.Touch(c, true)
		default:
			k.Touch(c, rnd.Intn(2) == 0)
		}
		list = append(list, told{k.All(), k.Peak()})
	}
	return list
}

// R5: the same calls tell the same, however often: in no order of a map's keys.
func TestAgain(t *testing.T) {
	for seed := range int64(5) {
		want := tell(seed)
		for range 20 {
			if !reflect.DeepEqual(tell(seed), want) {
				t.Fatal("another time all is told otherwise")
			}
		}
	}
}

// R5: marks that are asked side by side, each by one hand, share nothing.
func TestSideMarks(t *testing.T) {
	want := tell(9)
	var all sync.WaitGroup
	for hand := range 16 {
		all.Go(func() {
			if !reflect.DeepEqual(tell(9), want) {
				t.Errorf("the hand %d is told otherwise", hand)
			}
		})
	}
	all.Wait()
}
