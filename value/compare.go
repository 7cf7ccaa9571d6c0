package value

import (
	"cmp"

	"oriel/api"
)

// Compare tells which of two values stands ahead.
func Compare(a, b api.Value) int {
	if wrong(a) != api.CodeNone || wrong(b) != api.CodeNone {
		return 0
	}
	a, b = filled(a, b.Tag), filled(b, a.Tag)
	if a.Tag != b.Tag {
		// The tags are counted in the order in which their values stand.
		return cmp.Compare(a.Tag, b.Tag)
	}
	switch a.Tag {
	case api.Number:
		return cmp.Compare(a.Num, b.Num)
	case api.Text:
		return cmp.Compare(a.Str, b.Str)
	case api.Bool:
		return cmp.Compare(parts(a.Is), parts(b.Is))
	}
	return 0
}

// filled is a value, or what a tag has for nothing in the place of Blank.
func filled(v api.Value, other api.Tag) api.Value {
	if v.Tag == api.Blank {
		return api.Value{Tag: other}
	}
	return v
}
