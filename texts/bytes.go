package texts

import (
	"math"
	"slices"
	"strings"

	"oriel/api"
	"oriel/dec"
	"oriel/value"
)

// letters is how many there are from A to Z.
const letters = 26

// length is how many bytes a text has.
func length(c call) api.Value { return counted(len(c.texts[0])) }

// upper is a text with capitals for its small letters.
func upper(c call) api.Value { return c.answer(recased(c.texts[0], 'a', 'A')) }

// lower is a text with small letters for its capitals.
func lower(c call) api.Value { return c.answer(recased(c.texts[0], 'A', 'a')) }

// recased is a text with the letters from one on as those from another on.
func recased(s string, from, to byte) string {
	list := []byte(s)
	for i, b := range list {
		if b >= from && b < from+letters {
			list[i] = b - from + to
		}
	}
	return string(list)
}

// trimmed is a text without blanks at its ends, and with one for several within.
func trimmed(c call) api.Value {
	s := strings.Trim(c.texts[0], " ")
	var list []byte
	for i := range len(s) {
		// The first byte is no blank, so that one stands ahead of each blank.
		if s[i] != ' ' || s[i-1] != ' ' {
			list = append(list, s[i])
		}
	}
	return c.answer(string(list))
}

// reversed is a text from its last byte to its first.
func reversed(c call) api.Value {
	list := []byte(c.texts[0])
	slices.Reverse(list)
	return c.answer(string(list))
}

// firstByte is the number of a text's first byte.
func firstByte(c call) api.Value {
	s := c.texts[0]
	if s == "" {
		return value.Err(api.CodeArg)
	}
	return counted(int(s[0]))
}

// oneByte is the text of the byte of a number.
func oneByte(c call) api.Value {
	n := c.numbers[0]
	if n < 0 || n > math.MaxUint8 {
		return value.Err(api.CodeArg)
	}
	return c.answer(string([]byte{byte(n)}))
}

// same tells whether two texts have the same bytes.
func same(c call) api.Value { return value.Truth(c.texts[0] == c.texts[1]) }

// number is the number that a text tells.
func number(c call) api.Value {
	x, is := dec.Parse(c.texts[0])
	if !is {
		return value.Err(api.CodeType)
	}
	return value.Num(x)
}
