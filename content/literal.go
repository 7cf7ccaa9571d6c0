package content

import (
	"strings"

	"oriel/api"
	"oriel/dec"
	"oriel/value"
)

// literal is the value of a text that is no formula. Its first byte tells the first kind of literal that it may be; what turns out to be none of that kind goes on to the next.
func literal(text string) api.Value {
	if text == "" {
		return api.Value{}
	}
	switch text[0] {
	case '-', '0', '1', '2', '3', '4', '5', '6', '7', '8', '9':
		if x, is := dec.Parse(text); is {
			return value.Num(x)
		}
		fallthrough
	case 'T', 'F':
		if text == "TRUE" || text == "FALSE" {
			return value.Truth(text == "TRUE")
		}
		fallthrough
	case '\'':
		if rest, quoted := strings.CutPrefix(text, "'"); quoted {
			return value.Txt(strings.Clone(rest))
		}
		fallthrough
	default:
		return value.Txt(strings.Clone(text))
	}
}
