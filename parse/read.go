package parse

import (
	"oriel/api"
	"oriel/lex"
	"oriel/ops"
	"oriel/refs"
)

// Where the reading stands.
const (
	atThing     = iota // a thing must come
	atArgument         // a thing or a rectangle must come
	atFirst            // an argument must come, or the end of a call that has none
	behindName         // the bracket of a call must come
	behindThing        // what works on the thing may come, or what ends it
	behindRect         // what ends the argument must come
)

// loosest is looser than all levels on which operations bind.
const loosest = 0

// reader is a formula as far as it is read.
type reader struct {
	table Table
	place int
	name  api.Token // of the call whose bracket must come
	nodes []api.Node
	open  []bracket // the innermost last
	waits waits
}

// bracket is one that is not closed yet.
type bracket struct {
	name  api.Token // of a call; of brackets alone the zero token
	rects []bool    // which of the call's arguments, as far as they are read, are rectangles
	ahead int       // how many operations waited when it was opened: they work on nothing within
}

func (b bracket) isCall() bool { return b.name.Kind == api.TokWord }

// read is the nodes of a formula's text.
func read(text string, t Table) []api.Node {
	r := &reader{table: t}
	for token := range lex.Lex(text) {
		r.take(token)
	}
	return r.nodes
}

// take takes the next token, or gives up.
func (r *reader) take(token api.Token) {
	switch r.place {
	case atFirst:
		if isSign(token, ")") {
			r.closeBracket(token.At)
			return
		}
		fallthrough
	case atArgument:
		if token.Kind == api.TokRect {
			r.add(api.Node{Kind: api.NodeRect, Rect: token.Rect}, token.At)
			r.place = behindRect
			return
		}
		fallthrough
	case atThing:
		r.takeThing(token)
	case behindName:
		r.takeOpening(token)
	case behindThing:
		r.takeWorking(token)
	case behindRect:
		r.takeEnding(token)
	}
}

// takeThing takes what a thing is, or begins with.
func (r *reader) takeThing(token api.Token) {
	if node, ok := leaf(token); ok {
		r.add(node, token.At)
		r.place = behindThing
		return
	}
	switch {
	case token.Kind == api.TokWord:
		r.takeName(token)
	case isSign(token, "("):
		r.openBracket(token.At, api.Token{})
		r.place = atThing
	case isSign(token, "-"):
		r.waits.push(wait{op: api.OpNeg, at: token.At})
		r.place = atThing
	default:
		refuse(api.ErrSyntax, token.At)
	}
}

func (r *reader) takeName(name api.Token) {
	if !mayName(name.Str) || !r.table.Known(name.Str) {
		refuse(api.ErrSyntax, name.At)
	}
	r.name = name
	r.place = behindName
}

// mayName tells whether a call may have a name: then it may be a formula by itself.
func mayName(name string) bool {
	return refs.Check(api.Formula{Nodes: []api.Node{callNode(name, 0)}}) == api.OK
}

func (r *reader) takeOpening(token api.Token) {
	if !isSign(token, "(") {
		refuse(api.ErrSyntax, token.At)
	}
	r.openBracket(token.At, r.name)
	r.place = atFirst
}

// takeWorking takes an operation that works on the thing ahead of it, or what ends that.
func (r *reader) takeWorking(token api.Token) {
	if isSign(token, "%") {
		r.add(opNode(api.OpPct), token.At)
		return
	}
	op, ok := operation(token)
	if !ok {
		r.work(loosest)
		r.takeEnding(token)
		return
	}
	r.work(ops.Level(op))
	r.waits.push(wait{op: op, at: token.At})
	r.place = atThing
}

// takeEnding takes what ends an argument, what stands in brackets, or the whole.
func (r *reader) takeEnding(token api.Token) {
	switch {
	case isSign(token, ","):
		r.nextArgument(token.At)
	case isSign(token, ")"):
		r.closeBracket(token.At)
	case token.Kind != api.TokEnd || len(r.open) > 0:
		refuse(api.ErrSyntax, token.At)
	}
}

// openBracket opens one that stands at a place: a call's, if there is a name.
func (r *reader) openBracket(at int, name api.Token) {
	if len(r.open) == api.MaxDepth {
		refuse(api.ErrTooDeep, at)
	}
	r.open = append(r.open, bracket{name: name, ahead: r.waits.count})
}

func (r *reader) nextArgument(at int) {
	last := len(r.open) - 1
	if last < 0 || !r.open[last].isCall() || len(r.open[last].rects) == api.MaxArgs-1 {
		refuse(api.ErrSyntax, at)
	}
	r.open[last].rects = append(r.open[last].rects, r.place == behindRect)
	r.place = atArgument
}

func (r *reader) closeBracket(at int) {
	last := len(r.open) - 1
	if last < 0 {
		refuse(api.ErrSyntax, at)
	}
	closed := r.open[last]
	r.open = r.open[:last]
	if closed.isCall() {
		if r.place != atFirst {
			closed.rects = append(closed.rects, r.place == behindRect)
		}
		r.call(closed.name, closed.rects)
	}
	r.place = behindThing
}

// call makes the node of a call whose arguments are read.
func (r *reader) call(name api.Token, rects []bool) {
	if !r.table.Takes(name.Str, rects) {
		refuse(api.ErrSyntax, name.At)
	}
	r.add(callNode(own(name), len(rects)), name.At)
}

// work makes the nodes of the operations that wait for the thing that is read: those within the innermost bracket that bind on this level or closer.
func (r *reader) work(level int) {
	ahead := 0
	if len(r.open) > 0 {
		ahead = r.open[len(r.open)-1].ahead
	}
	for r.waits.count > ahead && ops.Level(r.waits.last().op) >= level {
		one := r.waits.pop()
		r.add(opNode(one.op), one.at)
	}
}

// add lays a node behind the others; it is of the token at a place.
func (r *reader) add(node api.Node, at int) {
	if len(r.nodes) == api.MaxNodes {
		refuse(api.ErrSyntax, at)
	}
	r.nodes = append(r.nodes, node)
}
