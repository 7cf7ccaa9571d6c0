package parse

import "oriel/api"

// wait is an operation that waits for the end of the last thing that it works on; its sign stands at a place.
type wait struct {
	op int
	at int
}

// waits are the operations that wait, the last one innermost.
//
// A text may have any number of signs ahead of a thing, but the later ones' nodes are made first, and no more than
// MaxNodes in all: one that has so many later ones over it is never made, so its room is taken by another.
type waits struct {
	room  []wait
	count int
}

func (w *waits) push(one wait) {
	place := w.count % api.MaxNodes
	if place == len(w.room) {
		w.room = append(w.room, wait{})
	}
	w.room[place] = one
	w.count++
}

func (w *waits) last() wait { return w.room[(w.count-1)%api.MaxNodes] }

func (w *waits) pop() wait {
	one := w.last()
	w.count--
	return one
}
