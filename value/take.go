package value

import (
	"oriel/api"
	"oriel/dec"
)

// The texts of truths.
const (
	yes = "TRUE"
	no  = "FALSE"
)

// AsNumber takes a value for a number.
func AsNumber(v api.Value) (int64, api.Code) {
	if code := wrong(v); code != api.CodeNone {
		return 0, code
	}
	switch v.Tag {
	case api.Number:
		return v.Num, api.CodeNone
	case api.Bool:
		return parts(v.Is), api.CodeNone
	case api.Text:
		return 0, api.CodeType
	}
	return 0, api.CodeNone
}

// AsText takes a value for a text.
func AsText(v api.Value) (string, api.Code) {
	if code := wrong(v); code != api.CodeNone {
		return "", code
	}
	switch v.Tag {
	case api.Text:
		return v.Str, api.CodeNone
	case api.Number:
		return dec.Print(v.Num), api.CodeNone
	case api.Bool:
		return word(v.Is), api.CodeNone
	}
	return "", api.CodeNone
}

// AsBool takes a value for a truth.
func AsBool(v api.Value) (bool, api.Code) {
	if code := wrong(v); code != api.CodeNone {
		return false, code
	}
	switch v.Tag {
	case api.Bool:
		return v.Is, api.CodeNone
	case api.Number:
		return v.Num != 0, api.CodeNone
	case api.Text:
		return false, api.CodeType
	}
	return false, api.CodeNone
}

// wrong is the code of what has to be told in the place of a value: a Fault, or one that may not be.
func wrong(v api.Value) api.Code {
	if !May(v) {
		return api.CodeArg
	}
	return v.Code
}

// parts is a truth as a number.
func parts(is bool) int64 {
	if is {
		return api.Scale
	}
	return 0
}

// word is a truth as a text.
func word(is bool) string {
	if is {
		return yes
	}
	return no
}
