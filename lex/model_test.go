package lex

import (
	"fmt"
	"regexp"
	"slices"
	"strconv"
	"strings"
	"testing"

	"oriel/api"
)

func end(at int) api.Token                   { return api.Token{Kind: api.TokEnd, At: at} }
func wrongAt(at int) api.Token               { return api.Token{Kind: api.TokWrong, At: at} }
func number(at int, parts int64) api.Token   { return api.Token{Kind: api.TokNum, At: at, Num: parts} }
func text(at int, s string) api.Token        { return api.Token{Kind: api.TokText, At: at, Str: s} }
func word(at int, s string) api.Token        { return api.Token{Kind: api.TokWord, At: at, Str: s} }
func sign(at int, s string) api.Token        { return api.Token{Kind: api.TokSign, At: at, Str: s} }
func faultCode(at int, c api.Code) api.Token { return api.Token{Kind: api.TokCode, At: at, Code: c} }
func cellToken(at int, c api.Cell) api.Token { return api.Token{Kind: api.TokCell, At: at, Cell: c} }
func rectToken(at int, r api.Rect) api.Token { return api.Token{Kind: api.TokRect, At: at, Rect: r} }
func cell(at, row, col int) api.Token        { return cellToken(at, api.Cell{Row: row, Col: col}) }
func all(s string) []api.Token               { return slices.Collect(Lex(s)) }
func tokens(list ...api.Token) []api.Token   { return list }
func rect(at int, corners ...int) api.Token {
	return rectToken(at, api.Rect{Top: corners[0], Left: corners[1], Bottom: corners[2], Right: corners[3]})
}

// check holds what Lex tells of a text against what is wanted.
func check(t *testing.T, s string, want []api.Token) {
	t.Helper()
	if got := all(s); !slices.Equal(got, want) {
		t.Errorf("Lex(%s)\ntells %s\nwant  %s", brief(s), show(got), show(want))
	}
}

// brief is a text to be shown: of a long one its beginning.
func brief(s string) string {
	if len(s) > 80 {
		return fmt.Sprintf("%q.. of %d bytes", s[:80], len(s))
	}
	return strconv.Quote(s)
}

func show(list []api.Token) string {
	if len(list) > 12 {
		return fmt.Sprintf("%d tokens, at first %s", len(list), show(list[:12]))
	}
	var parts []string
	for _, tok := range list {
		parts = append(parts, fmt.Sprintf("{kind %d at %d: %d %s %v %v %d}", tok.Kind, tok.At, tok.Num, brief(tok.Str), tok.Cell, tok.Rect, tok.Code))
	}
	return strings.Join(parts, " ")
}

// model tells tokens by patterns, each with what it makes of a text that it fits, in the order in which they are tried.
type model struct {
	rows []row
}

type row struct {
	form *regexp.Regexp
	make func(fit []string) (api.Token, bool)
}

func newModel() model {
	var m model
	m.add(`"(?:[^"]|"")*(?:"|\z)`, makeText)
	m.add(`[0-9][0-9.]*`, makeNumber)
	m.add(`#[^!]*!`, makeCode)
	m.add(`([A-Z]+)([0-9]+):([A-Z0-9_]*)`, makeRect)
	m.add(`([A-Z]+)([0-9]+)(?:[^A-Z0-9_]|\z)`, makeCell)
	m.add(`[A-Z][A-Z0-9_]*`, func(fit []string) (api.Token, bool) { return word(len(fit[0]), fit[0]), true })
	m.add(`<>|<=|>=|[-(),+*/%&=<>]`, func(fit []string) (api.Token, bool) { return sign(len(fit[0]), fit[0]), true })
	return m
}

func (m *model) add(form string, make func([]string) (api.Token, bool)) {
	m.rows = append(m.rows, row{regexp.MustCompile(`\A(?s:` + form + `)`), make})
}

// tokens are those of a text.
func (m model) tokens(s string) []api.Token {
	if s == "" || s[0] != '=' {
		return tokens(wrongAt(0))
	}
	var list []api.Token
	at := 1
	for {
		for at < len(s) && s[at] == ' ' {
			at++
		}
		if at == len(s) {
			return append(list, end(at))
		}
		tok, ok := m.first(s[at:])
		if !ok {
			return append(list, wrongAt(at))
		}
		// A row tells by At how long its token is.
		size := tok.At
		tok.At = at
		list = append(list, tok)
		at += size
	}
}

// first is the token at the beginning of a text, with its length as At.
func (m model) first(s string) (api.Token, bool) {
	for _, r := range m.rows {
		if fit := r.form.FindStringSubmatch(s); fit != nil {
			return r.make(fit)
		}
	}
	return api.Token{}, false
}

// makeText goes through the quotes in pairs; a fit that has no end has none left for it.
func makeText(fit []string) (api.Token, bool) {
	var inner []byte
	s := fit[0][1:]
	for s != "" {
		if strings.HasPrefix(s, `""`) {
			inner, s = append(inner, '"'), s[2:]
			continue
		}
		if s[0] == '"' {
			return text(len(fit[0]), string(inner)), true
		}
		inner, s = append(inner, s[0]), s[1:]
	}
	return api.Token{}, false
}

var numberForm = regexp.MustCompile(`\A(0|[1-9][0-9]{0,14})(?:\.([0-9]{1,4}))?\z`)

func makeNumber(fit []string) (api.Token, bool) {
	m := numberForm.FindStringSubmatch(fit[0])
	if m == nil {
		return api.Token{}, false
	}
	parts, err := strconv.ParseInt(m[1]+(m[2] + "0000")[:4], 10, 64)
	return number(len(fit[0]), parts), err == nil
}

func makeCode(fit []string) (api.Token, bool) {
	names := []string{"#NUM!", "#DIV!", "#TYPE!", "#RANGE!", "#MISS!", "#LONG!", "#ARG!"}
	i := slices.Index(names, fit[0])
	return faultCode(len(fit[0]), api.CodeNum+api.Code(i)), i >= 0
}

var placeForm = regexp.MustCompile(`\A([A-Z]+)([0-9]+)\z`)

// place is the cell that letters and digits name.
func place(column, row string) (api.Cell, bool) {
	if len(column) > 2 || len(row) > 4 || row[0] == '0' {
		return api.Cell{}, false
	}
	col := 0
	for _, letter := range []byte(column) {
		col = col*26 + int(letter-'A') + 1
	}
	n, _ := strconv.Atoi(row)
	return api.Cell{Row: n, Col: col}, n <= 4096 && col <= 256
}

func makeCell(fit []string) (api.Token, bool) {
	c, ok := place(fit[1], fit[2])
	return cellToken(len(fit[1])+len(fit[2]), c), ok
}

func makeRect(fit []string) (api.Token, bool) {
	a, ok := place(fit[1], fit[2])
	m := placeForm.FindStringSubmatch(fit[3])
	if !ok || m == nil {
		return api.Token{}, false
	}
	b, ok := place(m[1], m[2])
	r := api.Rect{Top: a.Row, Left: a.Col, Bottom: b.Row, Right: b.Col}
	return rectToken(len(fit[0]), r), ok && a.Row <= b.Row && a.Col <= b.Col
}

// short are all texts of at most so many bytes out of these, behind what stands ahead.
func short(ahead, these string, most int) []string {
	list, last := []string{ahead}, []string{ahead}
	for range most {
		var next []string
		for _, s := range last {
			for i := range len(these) {
				next = append(next, s+these[i:i+1])
			}
		}
		list, last = append(list, next...), next
	}
	return list
}

// fragments are pieces of texts: tokens of all kinds, and what is none.
func fragments() []string {
	return []string{
		"0", "1", "12.5", "0.0001", "922337203685477.5807", "922337203685477.5808", "1.", "01", "1.2.3", ".", "999999999999999", "1000000000000000", "0.00001",
		`""`, `"a"`, `"a""b"`, `""""`, `"`, `"=A1"`, "\"\x00\xff\"", `"é"`,
		"#DIV!", "#NUM!", "#TYPE!", "#RANGE!", "#MISS!", "#LONG!", "#ARG!", "#CYCLE!", "#", "#!", "#div!", "#DIV", "!",
		"A", "SUM", "TRUE", "FALSE", "A1B", "A_1", "A_", "_", "a", "a1", "NOT_1",
		"A1", "Z9", "AA12", "IV4096", "A0", "A01", "IW1", "ZZ9", "AAA1", "A4097", "A99999999999999999999",
		"A1:B3", "B2:B2", "B2:A1", "A2:B1", "B1:A2", "A1:", "A1:B", "A1:2", "A1:B0", "A0:B2", "A1:IV4096", "A1:IW1", ":", "SUM:A1",
		"(", ")", ",", "+", "-", "*", "/", "%", "&", "=", "<", ">", "<>", "<=", ">=", "><", "=<",
		" ", "  ", "\t", "\n", "\x00", "\x7f", "\x80", "\xff", "é", "\u00a0", ";", "'", "$", "?", "@", "[", "^", "{", "~",
	}
}

// texts are all joins of two fragments, with nothing and with a blank between, and many of more, behind `=`.
func texts() []string {
	list := []string{"", "1", " =1", "A1", "=", "= ", "  "}
	parts := fragments()
	for _, a := range parts {
		list = append(list, "="+a)
		for _, b := range parts {
			list = append(list, "="+a+b, "="+a+" "+b)
		}
	}
	// A rule that steps through the fragments makes longer ones, the same ones each time.
	state := uint64(1)
	for range 20000 {
		s := "="
		for range 8 {
			state = state*6364136223846793005 + 1442695040888963407
			s += parts[(state>>33)%uint64(len(parts))]
		}
		list = append(list, s)
	}
	return list
}
