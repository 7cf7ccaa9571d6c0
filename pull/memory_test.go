package pull

import (
	"fmt"
	"math/rand"
	"reflect"
	"runtime"
	"slices"
	"strings"
	"sync"
	"testing"
	"unsafe"

	"oriel/addr"
	"oriel/api"
	"oriel/eval"
)

// overwrite writes into a list, and into its spare room.
func overwrite[T any](list []T, with T) {
	list = list[:cap(list)]
	for i := range list {
		list[i] = with
	}
}

// wrongEntry is what no answer has.
var wrongEntry = api.Entry{Cell: cell(-1, -1), Value: wanted("overwritten")}

// R4: Log and the lists of a Range, with their spare room, are new memory: who writes into them changes nothing.
func TestAnswersAreNew(t *testing.T) {
	for n := 1; n <= 30; n++ {
		p := newPlay(t, 100)
		p.put("A1", "1")
		for row := 2; row <= n; row++ {
			p.put(a(row), "="+a(row-1))
		}
		for turn := range 2 {
			p.put("A1", fmt.Sprint(turn))
			list := p.all(whole())
			log := p.p.Work().Log
			overwrite(log, cell(-1, -1))
			overwrite(list, wrongEntry)
			p.check("an answer was written into")
			p.all(whole())
			p.check("an answer was written into")
		}
	}
}

// R4: the lists that a source tells of a rectangle are new memory, too: a worker that writes into them changes nothing.
func TestToldAreNew(t *testing.T) {
	w := newPlain()
	x := newSheet(t, 100, does(func(c api.Cell, f api.Formula, s eval.Source) api.Value {
		for range 2 {
			overwrite(s.Rect(whole()), wrongEntry)
		}
		return w.Work(c, f, s)
	}))
	for row := 1; row <= 20; row++ {
		x.set(cell(row, 2), fmt.Sprint(row))
		x.set(cell(row, 1), fmt.Sprintf("=SUM(B1:B%d)", row))
	}
	for i, e := range x.p.Range(box("A1:A20")) {
		if e.Value != wanted((i+1)*(i+2)/2) {
			t.Errorf("%v", e)
		}
	}
}

// R4: what was answered stays as it is, whatever is called behind it.
func TestAnswersStay(t *testing.T) {
	p := newPlay(t, 100)
	p.put("A1", "words")
	for row := 2; row <= 30; row++ {
		p.put(a(row), "="+a(row-1)+"&1")
	}
	list, work := p.all(whole()), p.p.Work()
	before, log := slices.Clone(list), slices.Clone(work.Log)
	p.put("A1", "other")
	p.all(whole())
	for row := 2; row <= 30; row += 3 {
		p.put(a(row), "")
		p.get(at("A30"))
	}
	if !slices.Equal(list, before) || !slices.Equal(work.Log, log) {
		t.Error("an answer has changed")
	}
}

// shares tells whether two texts have a byte in common.
func shares(a, b string) bool {
	from, to := uintptr(unsafe.Pointer(unsafe.StringData(a))), uintptr(unsafe.Pointer(unsafe.StringData(b)))
	return from < to+uintptr(len(b)) && to < from+uintptr(len(a))
}

// R4: texts too: those that are answered are new, and of what a worker tells a copy is kept.
func TestTextsAreNew(t *testing.T) {
	told := strings.Repeat("told", 3)
	x := newSheet(t, 100, &answers{wanted(told)})
	x.set(at("A1"), "literal")
	x.set(at("A2"), "=A1")
	texts := []string{told, x.s.Get(at("A1")).Value.Str, x.s.Get(at("A1")).Text}
	for range 2 {
		texts = append(texts, x.p.Get(at("A1")).Str, x.p.Get(at("A2")).Str)
		for _, e := range x.p.Range(whole()) {
			texts = append(texts, e.Value.Str)
		}
	}
	kept := x.p.values[at("A2")].Str
	if shares(kept, told) {
		t.Error("the worker's text is kept")
	}
	texts = append(texts, kept)
	for i, one := range texts {
		for _, other := range texts[max(3, i+1):] {
			if shares(one, other) {
				t.Errorf("%q and %q share memory", one, other)
			}
		}
	}
}

// R4: what the worker is handed is the store's: neither it nor the content is changed.
func TestContentsStay(t *testing.T) {
	p := newPlay(t, 100)
	p.puts("A1 1", "A2 =A1+SUM(A1:B9)*2", "B1 =IF(A1,SUM(A1:A1),2)")
	says := p.s.Get(at("A2"))
	before, nodes, refs := *says, slices.Clone(says.Formula.Nodes), slices.Clone(says.Refs)
	p.all(whole())
	if p.s.Get(at("A2")) != says || !reflect.DeepEqual(*says, before) || !slices.Equal(says.Formula.Nodes, nodes) || !slices.Equal(says.Refs, refs) {
		t.Error("a content has changed")
	}
}

// P20.3: cells that are dropped leave nothing behind: when all are, the puller is as a new one, but for what Work tells of the last look.
func TestNothingBehind(t *testing.T) {
	for seed := range int64(20) {
		g := grid{Rand: rand.New(rand.NewSource(seed)), rows: 5, cols: 4, wild: 3}
		p := newPlay(t, 100)
		for range 60 {
			c := g.cell()
			p.put(addr.Name(c), g.says(c.Row))
			p.get(g.cell())
		}
		for row := range 5 {
			for col := range 4 {
				p.put(addr.Name(cell(row+1, col+1)), "")
			}
		}
		p.all(whole())
		fresh, _ := New(p.s, p.marks, p.k, p.w)
		if p.holds(0, 0); !reflect.DeepEqual(p.p, fresh) {
			t.Fatalf("seed %d: something is left: %+v", seed, p.p)
		}
	}
}

// P20.2: what is asked of cells without formulas keeps nothing.
func TestAskedKeepsNothing(t *testing.T) {
	p := newPlay(t, 100)
	p.puts("A1 1", "B7 words")
	fresh, _ := New(p.s, p.marks, p.k, p.w)
	for _, c := range append(wrongCells(), at("A1"), at("B7"), at("C9")) {
		p.p.Get(c)
		p.p.Drop(c)
		p.p.Range(rect(c.Row, c.Col, c.Row, c.Col))
		p.p.Work()
		p.p.Values()
	}
	if !reflect.DeepEqual(p.p, fresh) {
		t.Error("something is kept")
	}
}

// The room of a puller does not grow with how often it is asked.
func TestRoom(t *testing.T) {
	x := newSheet(t, 40, newPlain())
	for row := 2; row <= 30; row++ {
		x.set(cell(row, 1), fmt.Sprintf("=REPT(A%d,2)", row-1))
	}
	var before, behind runtime.MemStats
	for turn := range 2000 {
		if turn == 1000 {
			runtime.GC()
			runtime.ReadMemStats(&before)
		}
		x.set(at("A1"), fmt.Sprint(turn%2))
		x.p.Get(at("A30"))
	}
	runtime.GC()
	runtime.ReadMemStats(&behind)
	if behind.HeapAlloc > before.HeapAlloc+1<<18 {
		t.Errorf("%d bytes are held; ahead of a thousand Gets there were %d", behind.HeapAlloc, before.HeapAlloc)
	}
}

// R5: two pullers have each their own values; what one is told the other is not.
func TestTwoPullers(t *testing.T) {
	rnd := rand.New(rand.NewSource(1))
	p, q := newPlay(t, 100), newPlay(t, 30)
	g := grid{Rand: rnd, rows: 4, cols: 3, wild: 3}
	var s sums
	for range 300 {
		p.step(g, &s)
		q.check("another puller was told something")
		q.step(g, &s)
		p.check("another puller was told something")
	}
}

// told is what a puller tells behind a call.
type told struct {
	list          []api.Entry
	work          api.Work
	count, bytes  int
	stamps, turns int
}

// tell is a row of calls, the same for the same seed.
func tell(t *testing.T, seed int64) []told {
	x := newSheet(t, 14, newPlain())
	g := grid{Rand: rand.New(rand.NewSource(seed)), rows: 4, cols: 3, wild: 3}
	var list []told
	for range 150 {
		c := g.cell()
		x.set(c, g.says(c.Row))
		now := told{}
		if g.Intn(2) == 0 {
			now.list = x.p.Range(box(g.box(4)))
		} else {
			c := g.cell()
			now.list = []api.Entry{{Cell: c, Value: x.p.Get(c)}}
		}
		now.work = x.p.Work()
		now.count, now.bytes = x.p.Values()
		now.stamps, now.turns = x.k.Last(), x.k.Turns()
		list = append(list, now)
	}
	return list
}

// R5: the same calls tell the same, however often: in no order of a map's keys.
func TestAgain(t *testing.T) {
	for seed := range int64(5) {
		want := tell(t, seed)
		for range 10 {
			if !reflect.DeepEqual(tell(t, seed), want) {
				t.Fatal("another time all is told otherwise")
			}
		}
	}
}

// R5: pullers share nothing: each may be asked by a goroutine of its own, side by side with others.
func TestSideBySide(t *testing.T) {
	want := tell(t, 7)
	var all sync.WaitGroup
	for range 8 {
		all.Go(func() {
			if !reflect.DeepEqual(tell(t, 7), want) {
				t.Error("side by side all is told otherwise")
			}
		})
	}
	all.Wait()
}

// R5: no goroutine is left when a call answers.
func TestNoGoroutines(t *testing.T) {
	before := runtime.NumGoroutine()
	tell(t, 3)
	if now := runtime.NumGoroutine(); now > before {
		t.Errorf("%d goroutines; ahead there were %d", now, before)
	}
}
