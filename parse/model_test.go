package parse

import (
	"fmt"
	"slices"
	"strings"
	"testing"

	"oriel/addr"
	"oriel/api"
	"oriel/dec"
	"oriel/lex"
	"oriel/refs"
	"oriel/value"
)

// table knows functions by their names, each with what it takes.
type table map[string]func(rects []bool) bool

func (t table) Known(name string) bool { return t[name] != nil }

func (t table) Takes(name string, rects []bool) bool { return t[name] != nil && t[name](rects) }

func anything([]bool) bool { return true }

// chapter is the table of the chapter's examples.
func chapter() table {
	return table{"MAX": func(rects []bool) bool { return len(rects) == 1 || len(rects) == 2 && !rects[1] }}
}

// wide knows some names of several forms, of which one takes little.
func wide() table {
	return table{"MAX": chapter()["MAX"], "F": anything, "G": anything, "A1B": anything, "A_1": anything, "SUM": anything, "TRUE": anything, "FALSE": anything, "NO": func([]bool) bool { return false }}
}

// every knows all names, and takes all arguments.
type every struct{}

func (every) Known(string) bool { return true }

func (every) Takes(string, []bool) bool { return true }

var opWords = []string{"", "neg", "pct", "*", "/", "+", "-", "&", "=", "<>", "<", "<=", ">", ">="}

// nodeOf is the node of a word: a value as it is written, the name of a cell or a rectangle, neg, pct, a sign of two, or a call as `MAX/2`.
func nodeOf(word string) api.Node {
	if op := slices.Index(opWords, word); op > 0 {
		return api.Node{Kind: 4, Op: op}
	}
	if x, ok := dec.Parse(word); ok {
		return api.Node{Kind: 1, Value: api.Value{Tag: api.Number, Num: x}}
	}
	if c, ok := addr.Parse(word); ok {
		return api.Node{Kind: 2, Cell: c}
	}
	if r, ok := addr.ParseRect(word); ok {
		return api.Node{Kind: 3, Rect: r}
	}
	if c, ok := value.Named(word); ok {
		return api.Node{Kind: 1, Value: api.Value{Tag: api.Fault, Code: c}}
	}
	if word == "TRUE" || word == "FALSE" {
		return api.Node{Kind: 1, Value: api.Value{Tag: api.Bool, Is: word == "TRUE"}}
	}
	if strings.HasPrefix(word, `"`) {
		return api.Node{Kind: 1, Value: api.Value{Tag: api.Text, Str: strings.Trim(word, `"`)}}
	}
	name, count, ok := strings.Cut(word, "/")
	args := 0
	if _, err := fmt.Sscan(count, &args); !ok || err != nil {
		panic("no node: " + word)
	}
	return api.Node{Kind: 5, Name: name, Args: args}
}

// nodesOf are the nodes of words with a blank between.
func nodesOf(words string) []api.Node {
	var list []api.Node
	for _, word := range strings.Fields(words) {
		list = append(list, nodeOf(word))
	}
	return list
}

// short cuts what is told of a text.
func short(s string) string {
	if len(s) > 120 {
		return fmt.Sprintf("%q .. %q (%d)", s[:40], s[len(s)-70:], len(s))
	}
	return fmt.Sprintf("%q", s)
}

// reads checks that a text is read as these nodes.
func reads(t *testing.T, text string, table Table, want []api.Node) {
	t.Helper()
	f, code, at := Parse(text, table)
	if code != api.OK || at != 0 || !slices.Equal(f.Nodes, want) {
		t.Errorf("Parse(%s) = %+v, %d, %d; want %+v", short(text), f.Nodes, code, at, want)
	}
	if code := refs.Check(f); code != api.OK {
		t.Errorf("Parse(%s): what it reads may not be", short(text))
	}
}

// refuses checks that a text is refused so, with nothing beside that.
func refuses(t *testing.T, text string, table Table, code api.Errno, at int) {
	t.Helper()
	f, gotCode, gotAt := Parse(text, table)
	if gotCode != code || gotAt != at || f.Nodes != nil {
		t.Errorf("Parse(%s) = %d nodes, %d, %d; want %d, %d", short(text), len(f.Nodes), gotCode, gotAt, code, at)
	}
}

// model goes down the lines of the grammar, one function each, over all tokens of a text.
type model struct {
	table  Table
	tokens []api.Token
	depth  int
	nodes  []api.Node
}

type failure struct {
	code api.Errno
	at   int
}

// modelParse is what the chapter asks of a text.
func modelParse(text string, t Table) (nodes []api.Node, code api.Errno, at int) {
	m := &model{table: t, tokens: slices.Collect(lex.Lex(text))}
	defer func() {
		if why := recover(); why != nil {
			nodes, code, at = nil, why.(failure).code, why.(failure).at
		}
	}()
	m.expr()
	if m.tokens[0].Kind != api.TokEnd {
		m.wrong()
	}
	return m.nodes, api.OK, 0
}

func (m *model) wrong() { panic(failure{api.ErrSyntax, m.tokens[0].At}) }

// sign tells which of these signs the next token is; "" if none.
func (m *model) sign(these string) string {
	if m.tokens[0].Kind == api.TokSign && slices.Contains(strings.Fields(these), m.tokens[0].Str) {
		return m.tokens[0].Str
	}
	return ""
}

func (m *model) pass() api.Token {
	token := m.tokens[0]
	m.tokens = m.tokens[1:]
	return token
}

func (m *model) node(n api.Node, at int) {
	if len(m.nodes) >= 1024 {
		panic(failure{api.ErrSyntax, at})
	}
	m.nodes = append(m.nodes, n)
}

// row reads `part { ( one of these signs ) part }`.
func (m *model) row(part func(), these string) {
	part()
	for m.sign(these) != "" {
		token := m.pass()
		part()
		m.node(nodeOf(token.Str), token.At)
	}
}

func (m *model) expr() { m.row(m.cat, "= <> < <= > >=") }
func (m *model) cat()  { m.row(m.sum, "&") }
func (m *model) sum()  { m.row(m.prod, "+ -") }
func (m *model) prod() { m.row(m.neg, "* /") }

func (m *model) neg() {
	var signs []int
	for m.sign("-") != "" {
		signs = append(signs, m.pass().At)
	}
	m.post()
	for _, at := range slices.Backward(signs) {
		m.node(nodeOf("neg"), at)
	}
}

func (m *model) post() {
	m.prim()
	for m.sign("%") != "" {
		m.node(nodeOf("pct"), m.pass().At)
	}
}

func (m *model) prim() {
	token := m.tokens[0]
	switch token.Kind {
	case api.TokNum:
		m.node(api.Node{Kind: 1, Value: api.Value{Tag: 1, Num: token.Num}}, token.At)
	case api.TokText:
		m.node(api.Node{Kind: 1, Value: api.Value{Tag: 2, Str: token.Str}}, token.At)
	case api.TokCode:
		m.node(api.Node{Kind: 1, Value: api.Value{Tag: 4, Code: token.Code}}, token.At)
	case api.TokCell:
		m.node(api.Node{Kind: 2, Cell: token.Cell}, token.At)
	case api.TokWord:
		if token.Str != "TRUE" && token.Str != "FALSE" {
			m.call()
			return
		}
		m.node(nodeOf(token.Str), token.At)
	default:
		m.open()
		m.expr()
		m.close()
		return
	}
	m.pass()
}

func (m *model) open() {
	if m.sign("(") == "" {
		m.wrong()
	}
	if m.depth == 32 {
		panic(failure{api.ErrTooDeep, m.tokens[0].At})
	}
	m.depth++
	m.pass()
}

func (m *model) close() {
	if m.sign(")") == "" {
		m.wrong()
	}
	m.depth--
	m.pass()
}

func (m *model) call() {
	if name := m.tokens[0].Str; len(name) > 16 || !m.table.Known(name) {
		m.wrong()
	}
	name := m.pass()
	m.open()
	var rects []bool
	for m.sign(")") == "" || len(rects) > 0 {
		rects = append(rects, m.arg())
		if m.sign(",") == "" {
			break
		}
		if len(rects) == 16 {
			m.wrong()
		}
		m.pass()
	}
	if m.sign(")") != "" && !m.table.Takes(name.Str, rects) {
		panic(failure{api.ErrSyntax, name.At})
	}
	if m.sign(")") != "" {
		m.node(api.Node{Kind: 5, Name: name.Str, Args: len(rects)}, name.At)
	}
	m.close()
}

func (m *model) arg() bool {
	if m.tokens[0].Kind != api.TokRect {
		m.expr()
		return false
	}
	token := m.pass()
	m.node(api.Node{Kind: 3, Rect: token.Rect}, token.At)
	return true
}

// against holds Parse against the model; "" if they agree.
func against(text string, t Table) string {
	f, code, at := Parse(text, t)
	nodes, wantCode, wantAt := modelParse(text, t)
	if code != wantCode || at != wantAt || !slices.Equal(f.Nodes, nodes) {
		return fmt.Sprintf("Parse(%s) = %d nodes, %d, %d; the model: %d nodes, %d, %d", short(text), len(f.Nodes), code, at, len(nodes), wantCode, wantAt)
	}
	if code == api.OK && refs.Check(f) != api.OK {
		return fmt.Sprintf("Parse(%s): what it reads may not be", short(text))
	}
	return ""
}
