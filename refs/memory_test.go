package refs

import (
	"slices"
	"sync"
	"testing"

	"oriel/api"
)

func sample() api.Formula {
	return formula(cell(1, 1), rect(1, 1, 3, 2), cell(2, 1), call("SUM", 2), op(api.OpAdd), cell(1, 1), op(api.OpMul))
}

// R4: what is handed in is not changed, its spare room neither.
func TestHandedIn(t *testing.T) {
	room := make([]api.Node, 64)
	for i := range room {
		room[i] = number(int64(i))
	}
	count := copy(room, sample().Nodes)
	before := slices.Clone(room)
	f := api.Formula{Nodes: room[:count]}
	for range 2 {
		if Check(f) != api.OK || Depth(f) != 2 || len(Of(f)) != 3 || !Same(f, sample()) {
			t.Errorf("Check = %d, Depth = %d, Of = %+v", Check(f), Depth(f), Of(f))
		}
	}
	if !slices.Equal(room, before) {
		t.Error("what was handed in is changed")
	}
}

// R4: whoever asks may change the answer, and lay something behind it: no other answer is touched.
func TestAnswers(t *testing.T) {
	f := sample()
	one, two := Of(f), Of(f)
	want := slices.Clone(one)
	for i := range one {
		one[i] = api.Ref{Many: true, Rect: api.Rect{Top: 9, Left: 9, Bottom: 9, Right: 9}}
	}
	for range 8 {
		one = append(one, api.Ref{})
	}
	clear(one[:cap(one)])
	if !slices.Equal(two, want) || !slices.Equal(Of(f), want) {
		t.Error("an answer that was changed is seen by others")
	}
	if !Same(f, sample()) {
		t.Error("the formula was changed")
	}
	// And the other way round: who changes the formula later does not change the answer.
	f.Nodes[0] = cell(7, 7)
	if !slices.Equal(two, want) {
		t.Error("an answer hangs on the formula's nodes")
	}
}

// R5: asked again, and by many at once, they answer the same.
func TestAgain(t *testing.T) {
	f := formula(cell(1, 1))
	for i := range 300 {
		f.Nodes = append(f.Nodes, cell(1+i%50, 1+i%7), op(api.OpAdd))
	}
	want := Of(f)
	var all sync.WaitGroup
	for range 8 {
		all.Go(func() {
			for range 20 {
				if !slices.Equal(Of(f), want) || Check(f) != api.OK || Depth(f) != 0 {
					t.Error("another answer")
				}
			}
		})
	}
	all.Wait()
}
