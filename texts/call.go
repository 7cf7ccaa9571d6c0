package texts

import (
	"strings"

	"oriel/api"
	"oriel/given"
	"oriel/value"
)

// call is what a function is asked: its texts, its whole numbers, and how many bytes a text may have that it answers.
type call struct {
	texts   []string
	numbers []int64
	most    int
}

// take is a call with arguments that may be, taken from the left, or the first code that comes of it.
func (f function) take(args []api.Arg) (call, api.Code) {
	var c call
	for i, a := range args {
		var code api.Code
		if i < f.texts {
			code = c.addText(a.Value)
		} else {
			code = c.addNumber(a.Value)
		}
		if code != api.CodeNone {
			return call{}, code
		}
	}
	return c, api.CodeNone
}

// addText puts a value, taken for a text, behind the others.
func (c *call) addText(v api.Value) api.Code {
	s, code := value.AsText(v)
	c.texts = append(c.texts, s)
	return code
}

// addNumber puts a value, taken for a whole number, behind the others.
func (c *call) addNumber(v api.Value) api.Code {
	n, code := given.Whole(v)
	c.numbers = append(c.numbers, n)
	return code
}

// numberOr is the first number, or another one, if there is none.
func (c call) numberOr(other int64) int64 {
	if len(c.numbers) == 0 {
		return other
	}
	return c.numbers[0]
}

// answer is a text, or what is told in its place, if it is too long.
func (c call) answer(s string) api.Value {
	if len(s) > c.most {
		return value.Err(api.CodeLong)
	}
	// A piece of an argument would hold the whole of it for as long as the answer is held.
	return value.Txt(strings.Clone(s))
}

// counted is a whole number that is answered: no text has so many bytes that it may not be.
func counted(n int) api.Value { return value.Num(int64(n) * api.Scale) }
