package pull

import (
	"fmt"
	"maps"
	"math"
	"math/rand"
	"slices"
	"strings"
	"testing"

	"oriel/addr"
	"oriel/api"
	"oriel/content"
	"oriel/deps"
	"oriel/eval"
	"oriel/funcs"
	"oriel/marks"
	"oriel/stamps"
	"oriel/store"
)

func cell(row, col int) api.Cell { return api.Cell{Row: row, Col: col} }

func rect(top, left, bottom, right int) api.Rect {
	return api.Rect{Top: top, Left: left, Bottom: bottom, Right: right}
}

// whole are all cells of the sheet.
func whole() api.Rect { return rect(1, 1, 4096, 256) }

// at is the cell of a name, box the rectangle of one.
func at(name string) api.Cell {
	c, is := addr.Parse(name)
	if !is {
		panic(name + " is no cell")
	}
	return c
}
func box(name string) api.Rect {
	r, is := addr.ParseRect(name)
	if !is {
		panic(name + " is no rectangle")
	}
	return r
}

// a is the name of the cell of column A at a row.
func a(row int) string { return addr.Name(cell(row, 1)) }

// named are the names of cells.
func named(list []api.Cell) []string {
	var names []string
	for _, c := range list {
		names = append(names, addr.Name(c))
	}
	return names
}

// wrongCells are cells that may not be: for their row, their column, or both.
func wrongCells() []api.Cell {
	var list []api.Cell
	rows := []int{math.MinInt, -4096, -1, 0, 4097, 8192, 1<<32 + 1, math.MaxInt}
	cols := []int{math.MinInt, -256, -1, 0, 257, 512, 1<<32 + 1, math.MaxInt}
	for _, row := range append(rows, 1, 4096) {
		for _, col := range append(cols, 1, 256) {
			if row < 1 || row > 4096 || col < 1 || col > 256 {
				list = append(list, cell(row, col))
			}
		}
	}
	return list
}

// wanted is the value that stands for a thing: whole numbers, texts, truths, codes, nil for Blank.
func wanted(x any) api.Value {
	switch x := x.(type) {
	case nil:
		return api.Value{}
	case int:
		return api.Value{Tag: api.Number, Num: int64(x) * 10000}
	case string:
		return api.Value{Tag: api.Text, Str: x}
	case bool:
		return api.Value{Tag: api.Bool, Is: x}
	case api.Code:
		return api.Value{Tag: api.Fault, Code: x}
	case api.Value:
		return x
	}
	panic(fmt.Sprintf("no value: %T", x))
}

// ring is the fault of what is on a ring, or leads to one.
var ring = wanted(api.CodeCycle)

// rowByRow holds cells against each other by the words of DOC.md.
func rowByRow(a, b api.Cell) int {
	return slices.Compare([]int{a.Row, a.Col}, []int{b.Row, b.Col})
}

// within tells whether a cell is in a rectangle.
func within(r api.Rect, c api.Cell) bool {
	return r.Top <= c.Row && c.Row <= r.Bottom && r.Left <= c.Col && c.Col <= r.Right
}

// brief is a thing, written out for who reads a failure: quoted, as texts have any bytes, and cut.
func brief(x any) string { return fmt.Sprintf("%.600q", fmt.Sprintf("%+v", x)) }

// toldOf is what a source tells a worker of one reference: of a cell one entry, of a rectangle those that it has.
type toldOf struct {
	ref  api.Ref
	list []api.Entry
}

// handed is what a worker is handed, and what the source tells it then of all references of the formula.
type handed struct {
	at   api.Cell
	f    api.Formula
	told []toldOf
}

// same tells whether two workers were handed the same.
func same(a, b []handed) bool {
	return slices.EqualFunc(a, b, func(a, b handed) bool {
		return a.at == b.at && slices.Equal(a.f.Nodes, b.f.Nodes) && slices.EqualFunc(a.told, b.told, func(a, b toldOf) bool {
			return a.ref == b.ref && slices.Equal(a.list, b.list)
		})
	})
}

// model is a puller, and what it stands on, by the chapter's words: in plain maps, with stamps without a bound. It has no marks of its own: the states are told ahead of each call.
type model struct {
	e       *eval.Eval
	says    map[api.Cell]content.Content
	places  []api.Cell // those with contents, row by row
	states  map[api.Cell]int
	values  map[api.Cell]api.Value
	last    int
	changed map[api.Cell]int
	seen    map[api.Cell]int
	work    api.Work
	handed  []handed // in the last call
}

func newModel(e *eval.Eval) *model {
	return &model{e: e, says: map[api.Cell]content.Content{}, values: map[api.Cell]api.Value{}, changed: map[api.Cell]int{}, seen: map[api.Cell]int{}}
}

func (m *model) put(c api.Cell, x content.Content) {
	m.says[c] = x
	m.sort()
}

func (m *model) remove(c api.Cell) {
	delete(m.says, c)
	m.sort()
}

func (m *model) sort() { m.places = slices.SortedFunc(maps.Keys(m.says), rowByRow) }

// forget is P20.3.
func (m *model) forget(c api.Cell) {
	delete(m.values, c)
	delete(m.changed, c)
	delete(m.seen, c)
}

// direct are the cells with contents to which a cell refers directly: reference by reference, those in a rectangle row by row.
func (m *model) direct(c api.Cell) []api.Cell {
	var list []api.Cell
	for _, ref := range m.says[c].Refs {
		for _, p := range m.places {
			if within(ref.Rect, p) {
				list = append(list, p)
			}
		}
	}
	return list
}

// Cell and Rect tell what is known, without pulling anything: the model is its own source.
func (m *model) Cell(c api.Cell) api.Value {
	if m.says[c].Is {
		return m.values[c]
	}
	return m.says[c].Value
}

func (m *model) Rect(r api.Rect) []api.Entry {
	var list []api.Entry
	for _, p := range m.places {
		if within(r, p) {
			list = append(list, api.Entry{Cell: p, Value: m.Cell(p)})
		}
	}
	return list
}

// get and all are P20.2, each call of which begins with the states as they are.
func (m *model) get(c api.Cell, states map[api.Cell]int) api.Value {
	m.begin(states)
	return m.got(c)
}

func (m *model) all(r api.Rect, states map[api.Cell]int) []api.Entry {
	m.begin(states)
	var list []api.Entry
	for _, p := range m.places {
		if within(r, p) {
			list = append(list, api.Entry{Cell: p, Value: m.got(p)})
		}
	}
	return list
}

func (m *model) begin(states map[api.Cell]int) {
	m.states, m.work, m.handed = states, api.Work{}, nil
}

func (m *model) got(c api.Cell) api.Value {
	if m.says[c].Is {
		m.pull(c)
	}
	return m.Cell(c)
}

// pulled is a cell on the model's stack: of which it has gone through so many of what it refers to directly.
type pulled struct {
	at   api.Cell
	list []api.Cell
	gone int
}

// pull is 'To pull a cell', sentence by sentence.
func (m *model) pull(c api.Cell) {
	var stack []*pulled
	push := func(c api.Cell) {
		stack = append(stack, &pulled{c, m.direct(c), 0})
		m.work.Pushed++
		m.work.Pulls = max(m.work.Pulls, len(stack))
	}
	stands := func(c api.Cell) bool {
		return slices.ContainsFunc(stack, func(x *pulled) bool { return x.at == c })
	}
	push(c)
next:
	for len(stack) > 0 {
		x := stack[len(stack)-1]
		if m.states[x.at] == api.Clean {
			stack = stack[:len(stack)-1]
			continue
		}
		for x.gone < len(x.list) {
			p := x.list[x.gone]
			x.gone++
			if m.says[p].Is && m.states[p] != api.Clean && !stands(p) {
				push(p)
				continue next
			}
		}
		m.end(x, stands)
		stack = stack[:len(stack)-1]
	}
}

// end is what is said of a cell that ends.
func (m *model) end(x *pulled, stands func(api.Cell) bool) {
	old, had := m.values[x.at]
	now := old
	newer := func(p api.Cell) bool { return m.says[p].Is && m.changed[p] > m.seen[x.at] }
	if slices.ContainsFunc(x.list, func(p api.Cell) bool { return stands(p) || m.Cell(p) == ring }) {
		now = ring
	} else if m.states[x.at] == api.Due || !had || slices.ContainsFunc(x.list, newer) {
		now = m.worked(x.at)
	}
	if !had || now != old {
		m.last++
		m.changed[x.at] = m.last
	}
	m.values[x.at] = now
	m.seen[x.at] = m.last
	m.states[x.at] = api.Clean
}

func (m *model) worked(c api.Cell) api.Value {
	m.work.Log = append(m.work.Log, c)
	m.handed = append(m.handed, handed{c, m.says[c].Formula, asked(m.says[c].Refs, m)})
	return m.e.Work(m.says[c].Formula, m)
}

// asked is what a source tells of references.
func asked(refs []api.Ref, s eval.Source) []toldOf {
	var list []toldOf
	for _, ref := range refs {
		c := cell(ref.Rect.Top, ref.Rect.Left)
		if ref.Many {
			list = append(list, toldOf{ref, s.Rect(ref.Rect)})
		} else {
			list = append(list, toldOf{ref, []api.Entry{{Cell: c, Value: s.Cell(c)}}})
		}
	}
	return list
}

// bytes are how many the texts among the values have.
func (m *model) bytes() int {
	count := 0
	for _, v := range m.values {
		if v.Tag == api.Text {
			count += len(v.Str)
		}
	}
	return count
}

// below are a cell's precedents.
func (m *model) below(c api.Cell) map[api.Cell]bool {
	found, left := map[api.Cell]bool{}, []api.Cell{c}
	for len(left) > 0 {
		list := m.direct(left[0])
		left = left[1:]
		for _, p := range list {
			if !found[p] {
				found[p] = true
				left = append(left, p)
			}
		}
	}
	return found
}

// anew is a source that tells cells' values by DOC.md's words, worked out from the beginning.
type anew struct {
	m     *model
	known map[api.Cell]api.Value
}

func (m *model) anew() anew { return anew{m, map[api.Cell]api.Value{}} }

func (n anew) Cell(c api.Cell) api.Value {
	if v, is := n.known[c]; is {
		return v
	}
	v := n.m.says[c].Value
	if n.m.says[c].Is {
		v = n.formula(c)
	}
	n.known[c] = v
	return v
}

func (n anew) formula(c api.Cell) api.Value {
	below := n.m.below(c)
	if below[c] {
		return ring
	}
	for p := range below {
		if n.m.below(p)[p] {
			return ring
		}
	}
	return n.m.e.Work(n.m.says[c].Formula, n)
}

func (n anew) Rect(r api.Rect) []api.Entry {
	var list []api.Entry
	for _, p := range n.m.places {
		if within(r, p) {
			list = append(list, api.Entry{Cell: p, Value: n.Cell(p)})
		}
	}
	return list
}

// teller is a worker that keeps what it is handed, and what the source tells it.
type teller struct {
	e      *eval.Eval
	handed []handed
	refs   func(c api.Cell) []api.Ref
	watch  func() // is called ahead of the source's answers, and behind them
}

func (w *teller) Work(c api.Cell, f api.Formula, s eval.Source) api.Value {
	w.watch()
	w.handed = append(w.handed, handed{c, api.Formula{Nodes: slices.Clone(f.Nodes)}, asked(w.refs(c), s)})
	w.watch()
	return w.e.Work(f, s)
}

// sheet is a puller over all that it stands on, kept as the chapter says.
type sheet struct {
	t     *testing.T
	table *funcs.Table
	s     *store.Store
	d     *deps.Deps
	marks *marks.Marks
	k     *stamps.Clock
	p     *Puller
}

// text is how many bytes a text of a sheet may have.
const text = 64

// newSheet is one whose stamps stay below a bound.
func newSheet(t *testing.T, most int, w Worker) *sheet {
	t.Helper()
	x := &sheet{t: t, table: funcs.New(), s: store.New(), d: deps.New()}
	x.marks = marks.New(x.d)
	var code api.Errno
	if x.k, code = stamps.New(most); code != api.OK {
		t.Fatalf("there is no clock: %d", code)
	}
	if x.p, code = New(x.s, x.marks, x.k, w); code != api.OK || x.p == nil {
		t.Fatalf("New = %v, %d", x.p, code)
	}
	return x
}

// set gives a cell the content of a text, the empty one takes away what it has; it answers the content, and whether the cell had a formula.
func (x *sheet) set(c api.Cell, says string) (content.Content, bool) {
	x.t.Helper()
	now, code, _ := content.Read(says, text, x.table)
	if code != api.OK {
		x.t.Fatalf("%s may not be: %d", brief(says), code)
	}
	old := x.s.Get(c)
	if says == "" {
		code = x.s.Drop(c)
	} else {
		code = x.s.Put(c, &now)
	}
	if code != api.OK || x.d.Set(c, now.Refs) != api.OK {
		x.t.Fatalf("%v = %s may not be put: %d", c, brief(says), code)
	}
	x.marks.Touch(c, now.Is)
	had := old != nil && old.Is
	if had {
		x.p.Drop(c)
	}
	return now, had
}

// plain is a worker that asks eval.
type plain struct{ *eval.Eval }

func newPlain() plain { return plain{eval.New(funcs.New(), text, nil)} }

func (w plain) Work(_ api.Cell, f api.Formula, s eval.Source) api.Value { return w.Eval.Work(f, s) }

// play is a sheet, and a model that is told the same.
type play struct {
	*sheet
	w *teller
	m *model
}

func newPlay(t *testing.T, most int) *play {
	t.Helper()
	e := eval.New(funcs.New(), text, nil)
	p := &play{m: newModel(e)}
	p.w = &teller{e: e, refs: func(c api.Cell) []api.Ref { return p.m.says[c].Refs }, watch: func() {}}
	p.sheet = newSheet(t, most, p.w)
	p.check("New")
	return p
}

// states are all states, as they are.
func (p *play) states() map[api.Cell]int {
	all := map[api.Cell]int{}
	for _, s := range p.marks.All() {
		all[s.Cell] = s.State
	}
	return all
}

// put gives a cell the content of a text; the empty one takes away what it has.
func (p *play) put(name, says string) {
	p.t.Helper()
	now, had := p.set(at(name), says)
	if says == "" {
		p.m.remove(at(name))
	} else {
		p.m.put(at(name), now)
	}
	if had {
		p.m.forget(at(name))
	}
	p.check(fmt.Sprintf("%s is put as %s", name, brief(says)))
}

// puts puts rows of a name and a text, each with a blank between.
func (p *play) puts(rows ...string) {
	p.t.Helper()
	for _, row := range rows {
		name, says, _ := strings.Cut(row, " ")
		p.put(name, says)
	}
}

// check fails the test, unless what the puller tells of itself is what the model does.
func (p *play) check(call string) {
	p.t.Helper()
	work := p.p.Work()
	if !slices.Equal(work.Log, p.m.work.Log) || work.Pushed != p.m.work.Pushed || work.Pulls != p.m.work.Pulls || work.Marks != p.marks.Peak() {
		p.t.Fatalf("%s: Work is %s; want %s, Marks %d", call, brief(work), brief(p.m.work), p.marks.Peak())
	}
	if n, bytes := p.p.Values(); n != len(p.m.values) || bytes != p.m.bytes() {
		p.t.Fatalf("%s: Values is %d, %d; want %d, %d", call, n, bytes, len(p.m.values), p.m.bytes())
	}
}

// looked fails the test, unless a Get or Range of these cells has done what the chapter says; it is told the states ahead of it.
func (p *play) looked(call string, ahead map[api.Cell]int, before *model, targets ...api.Cell) {
	p.t.Helper()
	p.check(call)
	if !same(p.w.handed, p.m.handed) {
		p.t.Fatalf("%s: the worker is handed %s; want %s", call, brief(p.w.handed), brief(p.m.handed))
	}
	if !maps.Equal(p.states(), p.m.states) {
		p.t.Fatalf("%s: the states are %v; want %v", call, p.states(), p.m.states)
	}
	p.checkStamps(call)
	p.checkBelow(call, targets)
	p.checkCutOff(call, ahead, before)
}

// checkStamps fails the test, unless the clock was told what the model's was.
func (p *play) checkStamps(call string) {
	p.t.Helper()
	var all []api.Cell
	for c := range p.m.states {
		all = append(all, c)
		s, is := p.k.Get(c)
		if _, had := p.m.seen[c]; is != had || p.k.Turns() == 0 && (s.Changed != p.m.changed[c] || s.Seen != p.m.seen[c]) {
			p.t.Fatalf("%s: %v has the stamps %v, %v; want %d, %d", call, c, s, is, p.m.changed[c], p.m.seen[c])
		}
	}
	for _, x := range all {
		for _, c := range all {
			if got, want := p.k.Newer(c, x), p.m.changed[c] > p.m.seen[x]; got != want {
				p.t.Fatalf("%s: Newer(%v, %v) = %v", call, c, x, got)
			}
		}
	}
	if p.k.Turns() == 0 && p.k.Last() != p.m.last {
		p.t.Fatalf("%s: the clock was told %d changes; want %d", call, p.k.Last(), p.m.last)
	}
}

// checkBelow is P20.7 and P20.9, of the cells that were got: all with formulas below are Clean, and no more stood on the stack than there are; each was worked out once at most.
func (p *play) checkBelow(call string, targets []api.Cell) {
	p.t.Helper()
	all := map[api.Cell]bool{}
	for _, c := range targets {
		maps.Copy(all, p.m.below(c))
		all[c] = true
	}
	maps.DeleteFunc(all, func(c api.Cell, _ bool) bool { return !p.m.says[c].Is })
	for c := range all {
		if state, is := p.marks.State(c); state != api.Clean || !is {
			p.t.Fatalf("%s: %v has the state %d, %v", call, c, state, is)
		}
	}
	work := p.p.Work()
	if work.Pulls > len(all) || work.Pushed > len(all)+len(targets) {
		p.t.Fatalf("%s: %d cells with formulas; Work is %s", call, len(all), brief(work))
	}
	log := slices.SortedFunc(slices.Values(work.Log), rowByRow)
	if len(slices.Compact(log)) != len(work.Log) {
		p.t.Fatalf("%s: a cell is worked out twice: %v", call, work.Log)
	}
	for _, c := range log {
		if !all[c] {
			p.t.Fatalf("%s: %v is worked out, which is none of those that were asked for, nor below one", call, c)
		}
	}
}

// checkCutOff is P20.8: a cell was worked out only if it was Due, or had no value, or a cell to which it refers directly has changed since it was seen last.
func (p *play) checkCutOff(call string, ahead map[api.Cell]int, before *model) {
	p.t.Helper()
	for _, c := range p.p.Work().Log {
		_, had := before.values[c]
		changed := slices.ContainsFunc(p.m.direct(c), func(d api.Cell) bool { return p.m.changed[d] > before.seen[c] })
		if ahead[c] != api.Due && had && !changed {
			p.t.Fatalf("%s: %v is worked out for nothing", call, c)
		}
	}
}

// copied is a model of the stamps and values as they are.
func (m *model) copied() *model {
	return &model{values: maps.Clone(m.values), seen: maps.Clone(m.seen)}
}

// get is a Get, of both, and all that holds behind it.
func (p *play) get(c api.Cell) api.Value {
	p.t.Helper()
	call, ahead, before := fmt.Sprintf("Get(%v)", c), p.states(), p.m.copied()
	p.w.handed = nil
	got, want := p.p.Get(c), p.m.get(c, maps.Clone(ahead))
	if fresh := p.m.anew().Cell(c); got != want || got != fresh {
		p.t.Fatalf("%s = %s; want %s; from the beginning %s", call, brief(got), brief(want), brief(fresh))
	}
	p.looked(call, ahead, before, c)
	return got
}

// all is a Range, of both, and all that holds behind it.
func (p *play) all(r api.Rect) []api.Entry {
	p.t.Helper()
	call, ahead, before := fmt.Sprintf("Range(%v)", r), p.states(), p.m.copied()
	p.w.handed = nil
	got, want := p.p.Range(r), p.m.all(r, maps.Clone(ahead))
	if fresh := p.m.anew().Rect(r); !slices.Equal(got, want) || !slices.Equal(got, fresh) {
		p.t.Fatalf("%s = %s; want %s; from the beginning %s", call, brief(got), brief(want), brief(fresh))
	}
	var targets []api.Cell
	for _, e := range got {
		targets = append(targets, e.Cell)
	}
	p.looked(call, ahead, before, targets...)
	return got
}

// gets fails the test, unless a Get tells that, and Work behind it has that Log, so many Pushed, and so many Pulls.
func (p *play) gets(name string, want any, pushed, pulls int, log ...string) {
	p.t.Helper()
	if got := p.get(at(name)); got != wanted(want) {
		p.t.Fatalf("Get(%s) = %s; want %v", name, brief(got), want)
	}
	p.did(pushed, pulls, log...)
}

// did fails the test, unless Work tells that.
func (p *play) did(pushed, pulls int, log ...string) {
	p.t.Helper()
	work := p.p.Work()
	if work.Pushed != pushed || work.Pulls != pulls || !slices.Equal(named(work.Log), log) {
		p.t.Fatalf("Work is %v, Pushed %d, Pulls %d; want %v, %d, %d", named(work.Log), work.Pushed, work.Pulls, log, pushed, pulls)
	}
}

// has fails the test, unless a Range tells these, by their names and what stands for their values.
func (p *play) has(r api.Rect, want ...any) {
	p.t.Helper()
	var list []api.Entry
	for i := 0; i < len(want); i += 2 {
		list = append(list, api.Entry{Cell: at(want[i].(string)), Value: wanted(want[i+1])})
	}
	if got := p.all(r); !slices.Equal(got, list) {
		p.t.Fatalf("Range(%v) = %s; want %s", r, brief(got), brief(list))
	}
}

// holds fails the test, unless Values tells that.
func (p *play) holds(count, bytes int) {
	p.t.Helper()
	if n, b := p.p.Values(); n != count || b != bytes {
		p.t.Fatalf("Values is %d, %d; want %d, %d", n, b, count, bytes)
	}
}

// mixed is a list in another order.
func mixed[T any](seed int64, list []T) []T {
	list = slices.Clone(list)
	rand.New(rand.NewSource(seed)).Shuffle(len(list), func(i, j int) { list[i], list[j] = list[j], list[i] })
	return list
}
