package pull

import (
	"oriel/api"
	"oriel/given"
	"oriel/store"
	"oriel/value"
)

// look is one Get or Range, and its stack.
type look struct {
	*Puller
	stack  []frame
	stands map[api.Cell]struct{} // the cells on the stack
	ended  map[api.Cell]struct{} // the cells that have ended in this look
}

// frame is a cell on the stack, with how far it has gone through the cells to which it refers directly.
type frame struct {
	at      api.Cell
	formula api.Formula
	refs    []api.Ref
	gone    walk
}

// walk goes through the cells with contents in references: reference by reference, in each row by row.
type walk struct {
	left   []api.Ref
	behind api.Cell // in the first one that is left
}

// next is the next cell, and whether there is one.
func (w *walk) next(s *store.Store) (api.Cell, bool) {
	for len(w.left) > 0 {
		c, is := s.Next(w.left[0].Rect, w.behind)
		if is {
			w.behind = c
			return c, true
		}
		*w = walk{left: w.left[1:]}
	}
	return api.Cell{}, false
}

// look begins a Get or Range.
func (p *Puller) look() *look {
	if !p.asking {
		p.last = api.Work{}
	}
	return &look{Puller: p, stands: map[api.Cell]struct{}{}, ended: map[api.Cell]struct{}{}}
}

// get is a cell's value, pulled if it has a formula.
func (l *look) get(c api.Cell) api.Value {
	// A worker that asks the puller itself is told what is known: if that were pulled, two could wait for each other without an end.
	if !l.asking && l.hasFormula(c) {
		l.pull(c)
	}
	return given.Copied(l.known(c))
}

// known is a cell's value, as it stands.
func (l *look) known(c api.Cell) api.Value { return source{l.Puller}.Cell(c) }

// hasFormula tells whether a cell has a formula.
func (l *look) hasFormula(c api.Cell) bool {
	says := l.store.Get(c)
	return says != nil && says.Is
}

// pull brings a cell with a formula, and all that is below it, to its value.
func (l *look) pull(c api.Cell) {
	l.push(c)
	for len(l.stack) > 0 {
		x := &l.stack[len(l.stack)-1]
		if l.done(x.at) {
			l.pop()
		} else if below, is := l.below(x); is {
			l.push(below)
		} else {
			l.end(x)
			l.pop()
		}
	}
}

// push puts a cell with a formula on the stack.
func (l *look) push(c api.Cell) {
	says := l.store.Get(c)
	l.stack = append(l.stack, frame{at: c, formula: says.Formula, refs: says.Refs, gone: walk{left: says.Refs}})
	l.stands[c] = struct{}{}
	l.last.Pushed++
	l.last.Pulls = max(l.last.Pulls, len(l.stack))
}

// pop takes the last cell off the stack.
func (l *look) pop() {
	last := len(l.stack) - 1
	delete(l.stands, l.stack[last].at)
	l.stack = l.stack[:last]
}

// done tells whether a cell's value holds.
func (l *look) done(c api.Cell) bool {
	// What has ended is Clean. But where it is touched while all this goes on, or has no state, it would be worked out again and again.
	if _, is := l.ended[c]; is {
		return true
	}
	state, is := l.marks.State(c)
	return is && state == api.Clean
}

// below goes on through what a cell refers to directly, to the first one that comes first, and tells whether there is one.
func (l *look) below(x *frame) (api.Cell, bool) {
	for c, is := x.gone.next(l.store); is; c, is = x.gone.next(l.store) {
		if l.hasFormula(c) && !l.standing(c) && !l.done(c) {
			return c, true
		}
	}
	return api.Cell{}, false
}

// standing tells whether a cell is on the stack.
func (l *look) standing(c api.Cell) bool {
	_, is := l.stands[c]
	return is
}

// end gives a cell its value, when all to which it refers directly have theirs.
func (l *look) end(x *frame) {
	old, had := l.values[x.at]
	now := l.value(x, old, had)
	if !had || !value.Same(now, old) {
		l.clock.Change(x.at)
	}
	l.values[x.at] = now
	l.clock.See(x.at)
	l.marks.Clean(x.at)
	l.ended[x.at] = struct{}{}
}

// value is a cell's value, of which it is told whether it had one.
func (l *look) value(x *frame, old api.Value, had bool) api.Value {
	if l.leadsToRing(x) {
		return value.Err(api.CodeCycle)
	}
	if state, _ := l.marks.State(x.at); state == api.Due || !had || l.newerBelow(x) {
		return l.work(x)
	}
	return old
}

// leadsToRing tells whether a cell refers directly to one that stands on the stack, or that has a ring's fault.
func (l *look) leadsToRing(x *frame) bool {
	ring, w := value.Err(api.CodeCycle), walk{left: x.refs}
	for c, is := w.next(l.store); is; c, is = w.next(l.store) {
		if l.standing(c) || value.Same(l.known(c), ring) {
			return true
		}
	}
	return false
}

// newerBelow tells whether a cell with a formula to which this one refers directly has changed since this one looked.
func (l *look) newerBelow(x *frame) bool {
	w := walk{left: x.refs}
	for c, is := w.next(l.store); is; c, is = w.next(l.store) {
		if l.hasFormula(c) && l.clock.Newer(c, x.at) {
			return true
		}
	}
	return false
}

// work asks the worker for a cell's value.
func (l *look) work(x *frame) (v api.Value) {
	l.last.Log = append(l.last.Log, x.at)
	l.asking = true
	defer func() {
		l.asking = false
		// No panic goes up: a worker that gives up has told no value.
		if recover() != nil {
			v = value.Err(api.CodeArg)
		}
	}()
	return given.Copied(l.worker.Work(x.at, x.formula, source{l.Puller}))
}
