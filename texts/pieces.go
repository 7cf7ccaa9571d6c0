package texts

import (
	"strings"

	"oriel/api"
	"oriel/value"
)

// left is the first bytes of a text.
func left(c call) api.Value {
	s, n := c.texts[0], c.numberOr(1)
	if n < 0 {
		return value.Err(api.CodeArg)
	}
	return c.answer(s[:within(s, n)])
}

// right is the last bytes of a text.
func right(c call) api.Value {
	s, n := c.texts[0], c.numberOr(1)
	if n < 0 {
		return value.Err(api.CodeArg)
	}
	return c.answer(s[len(s)-within(s, n):])
}

// middle is the bytes of a text from a place on.
func middle(c call) api.Value {
	s, from, n := c.texts[0], c.numbers[0], c.numbers[1]
	if from < 1 || n < 0 {
		return value.Err(api.CodeArg)
	}
	rest := s[within(s, from-1):]
	return c.answer(rest[:within(rest, n)])
}

// within is a number of bytes that is not below 0, or how many a text has, if it has no more.
func within(s string, n int64) int { return int(min(n, int64(len(s)))) }

// firstPlace is the first place of one text in another.
func firstPlace(c call) api.Value {
	t, s, from := c.texts[0], c.texts[1], c.numberOr(1)
	if from < 1 {
		return value.Err(api.CodeArg)
	}
	// Just behind the last byte the empty text still stands; further on there is no place.
	if from-1 > int64(len(s)) {
		return value.Err(api.CodeMiss)
	}
	ahead := int(from - 1)
	at := strings.Index(s[ahead:], t)
	if at < 0 {
		return value.Err(api.CodeMiss)
	}
	return counted(ahead + at + 1)
}

// repeated is a text so many times.
func repeated(c call) api.Value {
	s, n := c.texts[0], c.numbers[0]
	switch {
	case n < 0:
		return value.Err(api.CodeArg)
	case s == "":
		return c.answer("")
	case n > int64(c.most/len(s)):
		// It is not made ahead of being refused: n may be so great that there is no room for it.
		return value.Err(api.CodeLong)
	}
	return c.answer(strings.Repeat(s, int(n)))
}

// replaced is a text with another one in the place of each that is looked for.
func replaced(c call) api.Value {
	s, t, u := c.texts[0], c.texts[1], c.texts[2]
	if t == "" {
		return value.Err(api.CodeArg)
	}
	// It is not made ahead of being refused: of two long texts there may be no room for it.
	if len(s)+strings.Count(s, t)*(len(u)-len(t)) > c.most {
		return value.Err(api.CodeLong)
	}
	return c.answer(strings.ReplaceAll(s, t, u))
}

// joined is all texts, one behind the other.
func joined(c call) api.Value { return c.answer(strings.Join(c.texts, "")) }
