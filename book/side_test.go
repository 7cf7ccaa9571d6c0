package book

import (
	"math/rand"
	"slices"
	"sync"
	"sync/atomic"
	"testing"

	"oriel/api"
	"oriel/content"
	"oriel/funcs"
)

// hands is how many goroutines ask at one time.
const hands = 24

// together runs a function by each of so many hands at one time, and waits for all.
func together(work func(hand int)) {
	start := make(chan struct{})
	var done sync.WaitGroup
	for hand := range hands {
		done.Go(func() {
			<-start
			work(hand)
		})
	}
	close(start)
	done.Wait()
}

// pointers are all that were told of a text, kept, so that no address comes to be another's.
type pointers struct {
	mutex sync.Mutex
	told  map[string]map[*content.Content]int
}

// note keeps a pointer that was told of a text.
func (p *pointers) note(s string, c *content.Content) {
	p.mutex.Lock()
	defer p.mutex.Unlock()
	if p.told == nil {
		p.told = map[string]map[*content.Content]int{}
	}
	if p.told[s] == nil {
		p.told[s] = map[*content.Content]int{}
	}
	p.told[s][c]++
}

// different is how many different pointers were told, of all texts.
func (p *pointers) different() int {
	sum := 0
	for _, list := range p.told {
		sum += len(list)
	}
	return sum
}

// P14.5: many take the same texts at one time, each in an order of its own: one reading and one pointer for each text; then all drop them.
func TestSideTake(t *testing.T) {
	for range 30 {
		b, list := New(funcs.New()), right()
		var seen pointers
		together(func(hand int) {
			for i := range list {
				s := list[(i+hand*7)%len(list)]
				for range 2 {
					c, code := b.Take(s)
					if code != api.OK || c == nil || c.Text != s {
						t.Errorf("Take(%s) = %s, %d", brief(s), brief(c), code)
						return
					}
					seen.note(s, c)
				}
			}
		})
		stands(t, b, len(list), int64(len(list)))
		if seen.different() != len(list) {
			t.Fatalf("%d pointers of %d texts", seen.different(), len(list))
		}
		for _, s := range list {
			takes(t, b, s)
			drops(t, b, s, api.OK)
		}
		together(func(hand int) {
			for i := range 2 * len(list) {
				if code := b.Drop(list[(i+hand*5)%len(list)]); code != api.OK {
					t.Errorf("Drop = %d", code)
				}
			}
		})
		stands(t, b, 0, int64(len(list)))
		forgot(t, b)
		for _, s := range list {
			drops(t, b, s, api.ErrBook)
		}
	}
}

// P14.5: all take one and the same text first, at one moment.
func TestSideOne(t *testing.T) {
	for round := range 300 {
		b, s := New(funcs.New()), right()[round%len(right())]
		var seen pointers
		together(func(int) {
			c, code := b.Take(s)
			if code != api.OK {
				t.Errorf("Take(%s) = %d", brief(s), code)
			}
			seen.note(s, c)
		})
		stands(t, b, 1, 1)
		if seen.different() != 1 {
			t.Fatalf("%s: %d pointers", brief(s), seen.different())
		}
		for range hands {
			drops(t, b, s, api.OK)
		}
		drops(t, b, s, api.ErrBook)
		forgot(t, b)
	}
}

// P14.2, P14.6: hands take texts and drop them again: who holds one is told the same pointer meanwhile, each reading has a pointer of its own, and in the end nothing is held.
func TestSideTakeAndDrop(t *testing.T) {
	for round := range 12 {
		b, list := New(funcs.New()), right()[:3+round]
		var seen pointers
		together(func(hand int) {
			rnd := rand.New(rand.NewSource(int64(round*hands + hand)))
			for range 300 {
				s := list[rnd.Intn(len(list))]
				first, code := b.Take(s)
				if code != api.OK || first.Text != s {
					t.Errorf("Take(%s) = %d", brief(s), code)
					return
				}
				seen.note(s, first)
				reads := b.Reads()
				if held := b.Held(); held < 1 || held > len(list) || reads < 1 {
					t.Errorf("Held %d, Reads %d while one is held", held, reads)
				}
				for range rnd.Intn(3) {
					if c, _ := b.Take(s); c != first {
						t.Errorf("%s: another pointer while it is held", brief(s))
					}
					if code := b.Drop(s); code != api.OK {
						t.Errorf("Drop(%s) = %d", brief(s), code)
					}
				}
				if code := b.Drop(s); code != api.OK {
					t.Errorf("Drop(%s) = %d while it is held", brief(s), code)
				}
				if b.Reads() < reads {
					t.Error("Reads has gone down")
				}
			}
		})
		forgot(t, b)
		if b.Reads() != int64(seen.different()) {
			t.Errorf("%d readings, %d pointers", b.Reads(), seen.different())
		}
		for _, s := range list {
			drops(t, b, s, api.ErrBook)
		}
	}
}

// P14.2: while one hand keeps texts, others take and drop them as they like: nobody reads them again.
func TestSideKept(t *testing.T) {
	b, list := New(funcs.New()), right()
	var kept []*content.Content
	for _, s := range list {
		kept = append(kept, takes(t, b, s))
	}
	together(func(hand int) {
		rnd := rand.New(rand.NewSource(int64(hand)))
		for range 2000 {
			i := rnd.Intn(len(list))
			c, code := b.Take(list[i])
			if c != kept[i] || code != api.OK || b.Drop(list[i]) != api.OK {
				t.Errorf("%s: another pointer, or %d", brief(list[i]), code)
			}
			if held, reads := b.Held(), b.Reads(); held != len(list) || reads != int64(len(list)) {
				t.Errorf("Held %d, Reads %d", held, reads)
			}
		}
	})
	stands(t, b, len(list), int64(len(list)))
}

// P14.3: of more Drops at one time than there were Takes just as many are answered OK.
func TestSideDropTooOften(t *testing.T) {
	for round := range 100 {
		b, s := New(funcs.New()), right()[round%len(right())]
		for range 50 {
			takes(t, b, s)
		}
		var good, bad atomic.Int64
		together(func(int) {
			for range 4 {
				switch b.Drop(s) {
				case api.OK:
					good.Add(1)
				case api.ErrBook:
					bad.Add(1)
				}
			}
		})
		if good.Load() != 50 || bad.Load() != 4*hands-50 {
			t.Fatalf("%d Drops were answered OK, %d ErrBook", good.Load(), bad.Load())
		}
		stands(t, b, 0, 1)
		forgot(t, b)
	}
}

// P14.6: hands take and drop, also what others hold, and leave something: in the end Held is how many texts were taken more often than dropped.
func TestSideLeft(t *testing.T) {
	for round := range 20 {
		b, list := New(funcs.New()), right()
		left := make([]atomic.Int64, len(list))
		var seen pointers
		together(func(hand int) {
			rnd := rand.New(rand.NewSource(int64(round*hands + hand)))
			for range 200 {
				i := rnd.Intn(len(list))
				if rnd.Intn(2) == 0 {
					c, _ := b.Take(list[i])
					seen.note(list[i], c)
					left[i].Add(1)
				} else if b.Drop(list[i]) == api.OK {
					left[i].Add(-1)
				}
			}
		})
		held := 0
		for i := range left {
			if left[i].Load() > 0 {
				held++
			}
		}
		stands(t, b, held, int64(seen.different()))
		for i, s := range list {
			for range left[i].Load() {
				drops(t, b, s, api.OK)
			}
			drops(t, b, s, api.ErrBook)
		}
		forgot(t, b)
	}
}

// P14.2, P14.4: many take wrong texts at one time: each is refused, nobody sees one held, and none is counted or dropped.
func TestSideWrong(t *testing.T) {
	list := slices.DeleteFunc(wrongs(), func(w refused) bool { return len(w.s) > 2000 })
	for range 30 {
		b := New(funcs.New())
		together(func(hand int) {
			for i := range list {
				w := list[(i+hand/2)%len(list)]
				if hand%4 == 3 {
					if b.Drop(w.s) != api.ErrBook || b.Held() != 0 || b.Reads() != 0 {
						t.Errorf("%s is held", brief(w.s))
					}
					continue
				}
				if c, code := b.Take(w.s); c != nil || code != w.code {
					t.Errorf("Take(%s) = %s, %d; want %d", brief(w.s), brief(c), code, w.code)
				}
			}
		})
		stands(t, b, 0, 0)
		forgot(t, b)
	}
}

// P14.2, P14.5: wrong texts and right ones at one time: the wrong ones leave nothing, the right ones are read once.
func TestSideWrongAndRight(t *testing.T) {
	for range 20 {
		b, list, bad := New(funcs.New()), right(), wrongs()[6:]
		together(func(hand int) {
			for i := range 2 * len(list) {
				w := bad[(i+hand)%len(bad)]
				if c, code := b.Take(w.s); c != nil || code != w.code {
					t.Errorf("Take(%s) = %d; want %d", brief(w.s), code, w.code)
				}
				s := list[(i*hand)%len(list)]
				if c, code := b.Take(s); code != api.OK || c.Text != s {
					t.Errorf("Take(%s) = %d", brief(s), code)
				}
				if b.Held() > len(list) || b.Drop(w.s) != api.ErrBook {
					t.Errorf("%s is held", brief(w.s))
				}
			}
		})
		stands(t, b, len(list), int64(len(list)))
	}
}

// Several books over one table that nobody has asked yet, at one time: each as if it were alone.
func TestSideBooks(t *testing.T) {
	for range 20 {
		table, list := &funcs.Table{}, right()
		books := []*Book{New(table), New(table), New(table)}
		var seen [3]pointers
		together(func(hand int) {
			b := books[hand%3]
			for i := range list {
				s := list[(i*5+hand)%len(list)]
				c, code := b.Take(s)
				if code != api.OK || c.Text != s {
					t.Errorf("Take(%s) = %d", brief(s), code)
					return
				}
				seen[hand%3].note(s, c)
			}
		})
		all := map[*content.Content]int{}
		for i, b := range books {
			stands(t, b, len(list), int64(len(list)))
			for _, told := range seen[i].told {
				for c := range told {
					all[c]++
				}
			}
		}
		if len(all) != 3*len(list) {
			t.Errorf("%d pointers in three books of %d texts", len(all), len(list))
		}
	}
}

// slowly begins to read a text, and goes on when it is told; behind that done is closed.
func slowly(b *Book, s string) (goOn func(), done chan struct{}) {
	began, wait, done := make(chan struct{}), make(chan struct{}), make(chan struct{})
	e := b.enter(s)
	go func() {
		defer close(done)
		e.once.Do(func() {
			close(began)
			<-wait
			b.read(s, e)
		})
	}()
	<-began
	return func() { close(wait) }, done
}

// P14.3 to P14.5: while a text is being read it is not held yet, others are taken and dropped as ever, and who takes it meanwhile waits and is told the same pointer.
func TestSideSlow(t *testing.T) {
	for _, s := range right() {
		b := New(funcs.New())
		goOn, done := slowly(b, s)
		stands(t, b, 0, 0)
		drops(t, b, s, api.ErrBook)
		takes(t, b, "other")
		refuses(t, b, "=1+", api.ErrSyntax)
		stands(t, b, 1, 1)
		var seen pointers
		var all sync.WaitGroup
		for range hands {
			all.Go(func() {
				c, code := b.Take(s)
				if code != api.OK {
					t.Errorf("Take(%s) = %d", brief(s), code)
				}
				seen.note(s, c)
			})
		}
		stands(t, b, 1, 1)
		drops(t, b, s, api.ErrBook)
		goOn()
		<-done
		all.Wait()
		stands(t, b, 2, 2)
		if seen.different() != 1 {
			t.Errorf("%s: %d pointers", brief(s), seen.different())
		}
		for range hands + 1 {
			drops(t, b, s, api.OK)
		}
		drops(t, b, s, api.ErrBook)
		stands(t, b, 1, 2)
	}
}

// P14.2: while a wrong text is being read nobody sees it held; who takes it meanwhile is told its error, and nothing is left of it.
func TestSideSlowWrong(t *testing.T) {
	for _, w := range wrongs() {
		b := New(funcs.New())
		goOn, done := slowly(b, w.s)
		stands(t, b, 0, 0)
		drops(t, b, w.s, api.ErrBook)
		var all sync.WaitGroup
		for range hands {
			all.Go(func() {
				if c, code := b.Take(w.s); c != nil || code != w.code {
					t.Errorf("Take(%s) = %s, %d; want %d", brief(w.s), brief(c), code, w.code)
				}
			})
		}
		stands(t, b, 0, 0)
		goOn()
		<-done
		all.Wait()
		stands(t, b, 0, 0)
		forgot(t, b)
		refuses(t, b, w.s, w.code)
	}
}

// R4: a text that is handed in by who waits, or by who came first, is not kept by any of them.
func TestSideHandedIn(t *testing.T) {
	for _, s := range right() {
		b := New(funcs.New())
		var seen pointers
		together(func(int) {
			handed, bytes := written(s)
			c, _ := b.Take(handed)
			spoil(bytes)
			seen.note(s, c)
		})
		if c := takes(t, b, s); seen.told[s][c] != hands {
			t.Fatalf("%s: %d pointers", brief(s), seen.different())
		}
		for range hands + 1 {
			drops(t, b, s, api.OK)
		}
		forgot(t, b)
		stands(t, b, 0, 1)
	}
}
