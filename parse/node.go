package parse

import (
	"strings"

	"oriel/api"
	"oriel/ops"
)

// isSign tells whether a token is this sign.
func isSign(token api.Token, sign string) bool {
	return token.Kind == api.TokSign && token.Str == sign
}

// operation is the operation of two whose sign a token is.
func operation(token api.Token) (int, bool) {
	if token.Kind != api.TokSign {
		return 0, false
	}
	return ops.OfTwo(token.Str)
}

// leaf is the node of a token that is a thing by itself.
func leaf(token api.Token) (api.Node, bool) {
	switch token.Kind {
	case api.TokNum:
		return valueNode(api.Value{Tag: api.Number, Num: token.Num}), true
	case api.TokText:
		return valueNode(api.Value{Tag: api.Text, Str: own(token)}), true
	case api.TokCode:
		return valueNode(api.Value{Tag: api.Fault, Code: token.Code}), true
	case api.TokCell:
		return api.Node{Kind: api.NodeCell, Cell: token.Cell}, true
	case api.TokWord:
		return truth(token.Str)
	}
	return api.Node{}, false
}

// truth is the node of a word that is a truth.
func truth(word string) (api.Node, bool) {
	switch word {
	case "TRUE", "FALSE":
		return valueNode(api.Value{Tag: api.Bool, Is: word == "TRUE"}), true
	}
	return api.Node{}, false
}

func valueNode(v api.Value) api.Node { return api.Node{Kind: api.NodeValue, Value: v} }

func opNode(op int) api.Node { return api.Node{Kind: api.NodeOp, Op: op} }

func callNode(name string, args int) api.Node {
	return api.Node{Kind: api.NodeCall, Name: name, Args: args}
}

// own is what a token says, as a copy: else a formula would hold on to all of the text that it was read from.
func own(token api.Token) string { return strings.Clone(token.Str) }
