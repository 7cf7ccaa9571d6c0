package lists

import (
	"math/rand"
	"slices"
	"testing"
)

// upTo are the numbers from 0 on, so many.
func upTo(n int) []int {
	var list []int
	for i := range n {
		list = append(list, i)
	}
	return list
}

// Each place of lists of each short length: just what stood there is gone, the others stand in their order.
func TestWithout(t *testing.T) {
	for n := 1; n <= 40; n++ {
		for at := range n {
			want := append(upTo(at), upTo(n)[at+1:]...)
			if got := Without(upTo(n), at); !slices.Equal(got, want) {
				t.Fatalf("%d without the place %d: %v", n, at, got)
			}
		}
	}
}

// What is taken out leaves no room behind, from whichever end, and in the end no list.
func TestRoom(t *testing.T) {
	rnd := rand.New(rand.NewSource(1))
	for name, place := range map[string]func(n int) int{
		"first": func(int) int { return 0 },
		"last":  func(n int) int { return n - 1 },
		"any":   func(n int) int { return rnd.Intn(n) },
	} {
		list := upTo(5000)
		for len(list) > 0 {
			list = Without(list, place(len(list)))
			if cap(list) > 4*len(list)+8 {
				t.Fatalf("%s: room for %d of %d", name, cap(list), len(list))
			}
		}
		if list != nil {
			t.Errorf("%s: a list without anything keeps room for %d", name, cap(list))
		}
	}
}
