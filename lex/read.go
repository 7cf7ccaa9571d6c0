package lex

import (
	"strings"

	"oriel/addr"
	"oriel/api"
	"oriel/dec"
	"oriel/value"
)

// wrong is what is told of a piece that is no token.
func wrong() api.Token { return api.Token{Kind: api.TokWrong} }

// read tells which token a piece is; where it stands is not known here.
func read(piece string) api.Token {
	switch {
	case piece == "":
		return api.Token{Kind: api.TokEnd}
	case begins(piece, digits):
		return readNumber(piece)
	case begins(piece, quote):
		return readQuoted(piece)
	case begins(piece, fault):
		return readFault(piece)
	case begins(piece, letters):
		return readWord(piece)
	case begins(piece, signs):
		return api.Token{Kind: api.TokSign, Str: piece}
	}
	return wrong()
}

func readNumber(piece string) api.Token {
	x, ok := dec.Parse(piece)
	if !ok {
		return wrong()
	}
	return api.Token{Kind: api.TokNum, Num: x}
}

func readQuoted(piece string) api.Token {
	// The first and the last quote, and each doubled one, make an even number: with an odd one there is no last.
	if strings.Count(piece, quote)%2 != 0 {
		return wrong()
	}
	inner := piece[len(quote) : len(piece)-len(quote)]
	return api.Token{Kind: api.TokText, Str: strings.ReplaceAll(inner, quote+quote, quote)}
}

func readFault(piece string) api.Token {
	code, ok := value.Named(piece)
	// That something is on a ring is found, never written.
	if !ok || code == api.CodeCycle {
		return wrong()
	}
	return api.Token{Kind: api.TokCode, Code: code}
}

func readWord(piece string) api.Token {
	switch {
	case strings.Contains(piece, between):
		return readRect(piece)
	case isMeantAsCell(piece):
		return readCell(piece)
	}
	return api.Token{Kind: api.TokWord, Str: piece}
}

func readCell(piece string) api.Token {
	c, ok := addr.Parse(piece)
	if !ok {
		return wrong()
	}
	return api.Token{Kind: api.TokCell, Cell: c}
}

func readRect(piece string) api.Token {
	r, ok := addr.ParseRect(piece)
	if !ok {
		return wrong()
	}
	return api.Token{Kind: api.TokRect, Rect: r}
}
