package refs

import (
	"oriel/api"
	"oriel/ops"
)

// thing is what a node leaves for those behind it to work on.
type thing struct {
	rect  bool
	level int // how it binds
	depth int // how many brackets are open in it at most
}

// measure is a formula's depth, and whether nothing else is wrong with it.
func measure(nodes []api.Node) (int, bool) {
	if len(nodes) > api.MaxNodes {
		return 0, false
	}
	var things []thing
	for _, n := range nodes {
		if !may(n) || ops.Takes(n) > len(things) {
			return 0, false
		}
		rest := len(things) - ops.Takes(n)
		left, ok := work(n, things[rest:])
		if !ok {
			return 0, false
		}
		things = append(things[:rest], left)
	}
	if len(things) != 1 || things[0].rect {
		return 0, false
	}
	return things[0].depth, true
}

// work is what a node leaves in the place of the things that it works on, if it may work on them.
func work(n api.Node, things []thing) (thing, bool) {
	depth := 0
	for place, one := range things {
		if one.rect && n.Kind != api.NodeCall {
			return thing{}, false
		}
		if n.Kind == api.NodeOp && ops.InBrackets(n.Op, place, one.level) {
			one.depth++
		}
		depth = max(depth, one.depth)
	}
	if n.Kind == api.NodeCall {
		depth++
	}
	// What is no operation has the Op 0, which binds closest.
	return thing{rect: n.Kind == api.NodeRect, level: ops.Level(n.Op), depth: depth}, true
}
