package parse

import (
	"math/rand"
	"slices"
	"strings"
	"testing"

	"oriel/api"
)

// The chapter's examples.
func TestExamples(t *testing.T) {
	for text, words := range map[string]string{
		"=A1+2*3": "A1 2 3 * +", "=-1%": "1 pct neg", "=(-1)%": "1 neg pct", "=--1": "1 neg neg", "=1<2=3": "1 2 < 3 =", "=2*-3": "2 3 neg *",
		"=MAX(A1:B2,1)": "A1:B2 1 MAX/2", "=TRUE": "TRUE",
		"=" + strings.Repeat("(", 32) + "1" + strings.Repeat(")", 32): "1",
	} {
		reads(t, text, chapter(), nodesOf(words))
	}
	for text, at := range map[string]int{
		"1": 0, "=": 1, "=1+": 3, "=1 2": 3, "=)": 1, "=A1:B2": 1, "=MAX(A1:B2+1)": 10, "=MAX(1,A1:B2)": 1, "=MAX()": 1,
		"=MIN(1": 1, "=MAX": 4, "=MAX(1,2,3)": 1, "=TRUE()": 5,
	} {
		refuses(t, text, chapter(), api.ErrSyntax, at)
	}
	refuses(t, "="+strings.Repeat("(", 33)+"1"+strings.Repeat(")", 33), chapter(), api.ErrTooDeep, 33)
	refuses(t, "="+strings.Repeat("(", 33)+")", chapter(), api.ErrTooDeep, 33)
}

// P6.1: a nil table, ahead of all else.
func TestNilTable(t *testing.T) {
	for _, text := range []string{"", "1", "=", "=1", "=1+", "=A1:B2", "=MAX(1)", "=!", "=" + strings.Repeat("(", 33), "=1" + strings.Repeat("%", 2000)} {
		refuses(t, text, nil, api.ErrArg, 0)
	}
}

// P6.1: what a thing may be.
func TestThings(t *testing.T) {
	for text, node := range map[string]api.Node{
		"=0":                    {Kind: api.NodeValue, Value: api.Value{Tag: api.Number}},
		"=1":                    {Kind: api.NodeValue, Value: api.Value{Tag: api.Number, Num: 10000}},
		"=2.5":                  {Kind: api.NodeValue, Value: api.Value{Tag: api.Number, Num: 25000}},
		"=922337203685477.5807": {Kind: api.NodeValue, Value: api.Value{Tag: api.Number, Num: 1<<63 - 1}},
		`=""`:                   {Kind: api.NodeValue, Value: api.Value{Tag: api.Text}},
		`="a""b"`:               {Kind: api.NodeValue, Value: api.Value{Tag: api.Text, Str: `a"b`}},
		`="("`:                  {Kind: api.NodeValue, Value: api.Value{Tag: api.Text, Str: "("}},
		`="-"`:                  {Kind: api.NodeValue, Value: api.Value{Tag: api.Text, Str: "-"}},
		`="TRUE"`:               {Kind: api.NodeValue, Value: api.Value{Tag: api.Text, Str: "TRUE"}},
		"=\"\x00\xff=A1\"":      {Kind: api.NodeValue, Value: api.Value{Tag: api.Text, Str: "\x00\xff=A1"}},
		"=TRUE":                 {Kind: api.NodeValue, Value: api.Value{Tag: api.Bool, Is: true}},
		"=FALSE":                {Kind: api.NodeValue, Value: api.Value{Tag: api.Bool}},
		"=#NUM!":                {Kind: api.NodeValue, Value: api.Value{Tag: api.Fault, Code: api.CodeNum}},
		"=#DIV!":                {Kind: api.NodeValue, Value: api.Value{Tag: api.Fault, Code: api.CodeDiv}},
		"=#TYPE!":               {Kind: api.NodeValue, Value: api.Value{Tag: api.Fault, Code: api.CodeType}},
		"=#RANGE!":              {Kind: api.NodeValue, Value: api.Value{Tag: api.Fault, Code: api.CodeRange}},
		"=#MISS!":               {Kind: api.NodeValue, Value: api.Value{Tag: api.Fault, Code: api.CodeMiss}},
		"=#LONG!":               {Kind: api.NodeValue, Value: api.Value{Tag: api.Fault, Code: api.CodeLong}},
		"=#ARG!":                {Kind: api.NodeValue, Value: api.Value{Tag: api.Fault, Code: api.CodeArg}},
		"=A1":                   {Kind: api.NodeCell, Cell: api.Cell{Row: 1, Col: 1}},
		"=IV4096":               {Kind: api.NodeCell, Cell: api.Cell{Row: 4096, Col: 256}},
		"=F()":                  {Kind: api.NodeCall, Name: "F"},
		"=A_1()":                {Kind: api.NodeCall, Name: "A_1"},
		"=A1B()":                {Kind: api.NodeCall, Name: "A1B"},
	} {
		reads(t, text, wide(), []api.Node{node})
		reads(t, "=("+text[1:]+")", wide(), []api.Node{node})
		reads(t, "=-"+text[1:]+"%", wide(), []api.Node{node, nodeOf("pct"), nodeOf("neg")})
		reads(t, "=F("+text[1:]+")", wide(), []api.Node{node, nodeOf("F/1")})
		reads(t, "="+text[1:]+"+"+text[1:], wide(), []api.Node{node, node, nodeOf("+")})
	}
}

// P6.1: each operation of two, with each other one to its right: what binds closer is made first, of one level from the left.
func TestPairs(t *testing.T) {
	levels := [][]string{{"=", "<>", "<", "<=", ">", ">="}, {"&"}, {"+", "-"}, {"*", "/"}}
	for i, left := range levels {
		for j, right := range levels {
			for _, one := range left {
				reads(t, "=1"+one+"2", wide(), nodesOf("1 2 "+one))
				for _, two := range right {
					want := "1 2 " + one + " 3 " + two
					if j > i {
						want = "1 2 3 " + two + " " + one
					}
					reads(t, "=1"+one+"2"+two+"3", wide(), nodesOf(want))
					reads(t, "=1"+one+"(2"+two+"3)", wide(), nodesOf("1 2 3 "+two+" "+one))
					reads(t, "=(1"+one+"2)"+two+"3", wide(), nodesOf("1 2 "+one+" 3 "+two))
				}
			}
		}
	}
}

// P6.1: rows of operations: of one level, up and down through all of them, with `-` ahead and `%` behind.
func TestRows(t *testing.T) {
	for text, words := range map[string]string{
		"=1-2-3":              "1 2 - 3 -",
		"=1-2+3-4":            "1 2 - 3 + 4 -",
		"=8/4*2/1":            "8 4 / 2 * 1 /",
		"=1&2&3":              "1 2 & 3 &",
		"=1=2<>3<4<=5>6>=7":   "1 2 = 3 <> 4 < 5 <= 6 > 7 >=",
		"=1=2&3+4*5":          "1 2 3 4 5 * + & =",
		"=1*2+3&4=5":          "1 2 * 3 + 4 & 5 =",
		"=1+2*3-4/5&6":        "1 2 3 * + 4 5 / - 6 &",
		"=1=2+3=4&5*6":        "1 2 3 + = 4 5 6 * & =",
		"=1*2+3*4=5*6-7/8":    "1 2 * 3 4 * + 5 6 * 7 8 / - =",
		"=-1":                 "1 neg",
		"=---1":               "1 neg neg neg",
		"=1%":                 "1 pct",
		"=1%%%":               "1 pct pct pct",
		"=--1%%":              "1 pct pct neg neg",
		"=(--1)%%":            "1 neg neg pct pct",
		"=-(-1)":              "1 neg neg",
		"=-(1%)":              "1 pct neg",
		"=1--2":               "1 2 neg -",
		"=1---2":              "1 2 neg neg -",
		"=1+-2%":              "1 2 pct neg +",
		"=-1+2":               "1 neg 2 +",
		"=-1*2":               "1 neg 2 *",
		"=-1*-2/-3":           "1 neg 2 neg * 3 neg /",
		"=2*-3+4":             "2 3 neg * 4 +",
		"=-1=-2":              "1 neg 2 neg =",
		"=1%*2%":              "1 pct 2 pct *",
		"=-A1&-B2":            "A1 neg B2 neg &",
		"=-(1+2)*3":           "1 2 + neg 3 *",
		"=-(1+2)%":            "1 2 + pct neg",
		"=(1+2)*(3-4)":        "1 2 + 3 4 - *",
		"=((1)+((2)))":        "1 2 +",
		"=1-(2-(3-4))":        "1 2 3 4 - - -",
		"=1-((2-3)-4)-5":      "1 2 3 - 4 - - 5 -",
		"=((1=2)&3)*-(4+5)%":  "1 2 = 3 & 4 5 + pct neg *",
		`="a"&"b"<TRUE`:       `"a" "b" & TRUE <`,
		"=#DIV!+#NUM!%":       "#DIV! #NUM! pct +",
		"=1=TRUE=FALSE<>A1":   "1 TRUE = FALSE = A1 <>",
		"=-(-(-1%)%)%":        "1 pct neg pct neg pct neg",
		"=1*(2+3)-(4=5)&6":    "1 2 3 + * 4 5 = - 6 &",
		"=(1-2)-3":            "1 2 - 3 -",
		"=(1&2)=(3&4)":        "1 2 & 3 4 & =",
		"=-(1*2)":             "1 2 * neg",
		"=1<>2<=3":            "1 2 <> 3 <=",
		"=1>2>=3<4":           "1 2 > 3 >= 4 <",
		"=1/2/(3/4)":          "1 2 / 3 4 / /",
		"=1+2*3%*-4+5":        "1 2 3 pct * 4 neg * + 5 +",
		"=-1-1":               "1 neg 1 -",
		"=1=-2+-3*-4":         "1 2 neg 3 neg 4 neg * + =",
		"=(((1+2))*((3))-4)%": "1 2 + 3 * 4 - pct",
	} {
		reads(t, text, wide(), nodesOf(words))
	}
}

// P6.1: calls, of no, one and several arguments, within one another and within operations.
func TestCalls(t *testing.T) {
	for text, words := range map[string]string{
		"=F()":                      "F/0",
		"=F(1)":                     "1 F/1",
		"=F(1,2)":                   "1 2 F/2",
		"=F(1,2,3)":                 "1 2 3 F/3",
		"=F(1+2,3)":                 "1 2 + 3 F/2",
		"=F(1,2+3)":                 "1 2 3 + F/2",
		"=F(-1,2%,(3))":             "1 neg 2 pct 3 F/3",
		"=F(G())":                   "G/0 F/1",
		"=F(G(),G(1),G(1,2))":       "G/0 1 G/1 1 2 G/2 F/3",
		"=F(G(F(G(1),2)),3)":        "1 G/1 2 F/2 G/1 3 F/2",
		"=-F()%":                    "F/0 pct neg",
		"=1+F(2)*3":                 "1 2 F/1 3 * +",
		"=1*F(2+3,4)-5":             "1 2 3 + 4 F/2 * 5 -",
		"=F(1)-F(2)-F(3)":           "1 F/1 2 F/1 - 3 F/1 -",
		"=(F(1)+2)*3":               "1 F/1 2 + 3 *",
		"=F(1=2,3&4,5+6,7*8)":       "1 2 = 3 4 & 5 6 + 7 8 * F/4",
		"=F(TRUE,FALSE,#DIV!)":      "TRUE FALSE #DIV! F/3",
		`=F("a",",",")")`:           `"a" "," ")" F/3`,
		"=F(A1,B2)":                 "A1 B2 F/2",
		"=F(A1:B2)":                 "A1:B2 F/1",
		"=F(A1:A1)":                 "A1:A1 F/1",
		"=F(A1:B2,A1,A1:B2,1)":      "A1:B2 A1 A1:B2 1 F/4",
		"=F(1,A1:IV4096)":           "1 A1:IV4096 F/2",
		"=F(G(A1:B2),A1:B2)":        "A1:B2 G/1 A1:B2 F/2",
		"=F(A1:B2)+G(A1:B2)":        "A1:B2 F/1 A1:B2 G/1 +",
		"=-F(A1:B2,-G(A1:B2)%)":     "A1:B2 A1:B2 G/1 pct neg F/2 neg",
		"=(F(A1:B2))":               "A1:B2 F/1",
		"=1-F(2-3,4-F(5-6)-7)-8":    "1 2 3 - 4 5 6 - F/1 - 7 - F/2 - 8 -",
		"=1*(2+F(3*4,(5+6)*7))*8":   "1 2 3 4 * 5 6 + 7 * F/2 + * 8 *",
		"=1&F(2=3,(4=5)&6)=7":       "1 2 3 = 4 5 = 6 & F/2 & 7 =",
		"=-F(-1,--2)":               "1 neg 2 neg neg F/2 neg",
		"=A1B(A_1(SUM(MAX(1))))":    "1 MAX/1 SUM/1 A_1/1 A1B/1",
		"=MAX(A1:B2)+MAX(1,2)*3":    "A1:B2 MAX/1 1 2 MAX/2 3 * +",
		"=MAX(MAX(A1:B2,1),MAX(2))": "A1:B2 1 MAX/2 2 MAX/1 MAX/2",
	} {
		reads(t, text, wide(), nodesOf(words))
	}
}

// asked is a table that knows F, and keeps what it was asked for last.
type asked struct {
	want  []bool
	names []string
}

func (a *asked) Known(name string) bool {
	a.names = append(a.names, name)
	return name == "F"
}

func (a *asked) Takes(name string, rects []bool) bool {
	a.names = append(a.names, name)
	return name == "F" && slices.Equal(rects, a.want)
}

// P6.1: Takes is asked with how many arguments there are, and which are rectangles: all ways of up to five, against all.
func TestTakes(t *testing.T) {
	var ways [][]bool
	for count := range 6 {
		for bits := range 1 << count {
			way := make([]bool, count)
			for i := range way {
				way[i] = bits>>i&1 == 1
			}
			ways = append(ways, way)
		}
	}
	for _, way := range ways {
		var args, words []string
		for _, rect := range way {
			arg := "1"
			if rect {
				arg = "A1:B2"
			}
			args = append(args, arg)
			words = append(words, arg)
		}
		text := "=7+F(" + strings.Join(args, ",") + ")"
		nodes := nodesOf("7 " + strings.Join(words, " ") + " F/" + string(rune('0'+len(way))) + " +")
		for _, other := range ways {
			table := &asked{want: other}
			if slices.Equal(way, other) {
				reads(t, text, table, nodes)
			} else {
				refuses(t, text, table, api.ErrSyntax, 3)
			}
			for _, name := range table.names {
				if name != "F" {
					t.Errorf("%s: it is asked for %q", text, name)
				}
			}
		}
	}
}

// P6.1: a rectangle that another call, brackets or an operation has made into a thing is none any more.
func TestTakesOfThings(t *testing.T) {
	for _, text := range []string{"=F(1)", "=F(A1)", "=F((1))", "=F(-1)", "=F(1%)", "=F(1+1)", `=F("A1:B2")`, "=F(TRUE)", "=F(#DIV!)"} {
		if _, code, _ := Parse(text, &asked{want: []bool{false}}); code != api.OK {
			t.Errorf("%s: %d", text, code)
		}
		if _, code, at := Parse(text, &asked{want: []bool{true}}); code != api.ErrSyntax || at != 1 {
			t.Errorf("%s: %d, %d", text, code, at)
		}
	}
	inner := table{"G": func(rects []bool) bool { return slices.Equal(rects, []bool{true}) }, "F": func(rects []bool) bool { return slices.Equal(rects, []bool{false, true, false}) }}
	reads(t, "=F(G(A1:B2),A1:B2,1)", inner, nodesOf("A1:B2 G/1 A1:B2 1 F/3"))
	refuses(t, "=F(A1:B2,G(A1:B2),1)", inner, api.ErrSyntax, 1)
	refuses(t, "=F(G(A1),A1:B2,1)", inner, api.ErrSyntax, 3)
}

// goOn holds a text, and all that go on from it by so many words, against the model. What is wrong ahead of its end stays so: it does not go on.
func goOn(t *testing.T, text string, words []string, most int, table Table) {
	if bad := against(text, table); bad != "" {
		t.Fatal(bad)
	}
	if _, code, at := Parse(text, table); most == 0 || code != api.OK && at < len(text) {
		return
	}
	for _, word := range words {
		goOn(t, text+word, words, most-1, table)
	}
}

// P6.1: all short rows of tokens, against the model.
func TestShortTexts(t *testing.T) {
	for _, set := range []struct {
		words string
		most  int
	}{
		{`1 "x" #DIV! A1 A1:B2 TRUE F MAX NONE ( ) , + - * / % & = < >= !`, 4},
		{"1 A1:B2 F( ) , - % +", 7},
		{"1 ( ) - * + < &", 7},
		{"F( ) , A1:B2 1", 9},
		{"- % 1 ( )", 9},
	} {
		goOn(t, "=", strings.Fields(set.words), set.most, wide())
	}
}

// random writes a formula that is right, by the lines of the grammar.
func random(rnd *rand.Rand, deep int) []string {
	things := strings.Fields(`1 0.5 12 "" "x" "a""b" TRUE FALSE #DIV! #ARG! A1 B2 IV4096`)
	thing := func() []string { return []string{things[rnd.Intn(len(things))]} }
	if deep <= 0 {
		return thing()
	}
	switch rnd.Intn(6) {
	case 0:
		return append([]string{"-"}, random(rnd, deep-1)...)
	case 1:
		return slices.Concat([]string{"("}, random(rnd, deep-1), []string{")"}, slices.Repeat([]string{"%"}, rnd.Intn(3)))
	case 2:
		list := []string{"F", "("}
		for i := range rnd.Intn(4) {
			if i > 0 {
				list = append(list, ",")
			}
			if rnd.Intn(3) == 0 {
				list = append(list, "A1:B2")
				continue
			}
			list = append(list, random(rnd, deep-1)...)
		}
		return append(list, ")")
	case 3:
		return thing()
	}
	return slices.Concat(random(rnd, deep-1), []string{opWords[3+rnd.Intn(11)]}, random(rnd, deep-1))
}

// fragments are what texts are made wrong with.
func fragments() []string {
	return strings.Fields(`1 0.5 "x" TRUE FALSE #DIV! A1 A1:B2 F F( F() G MAX MAX( NO( NO() NONE NONE( TRUE( ( ) , + - * / % & = <> < <= > >= ! #CYCLE! A0 " ABCDEFGHIJKLMNOP ABCDEFGHIJKLMNOPQ( -- %% (( )) ,,`)
}

// spaced joins tokens, with a blank here and there.
func spaced(rnd *rand.Rand, list []string) string {
	var b strings.Builder
	b.WriteString("=")
	for _, word := range list {
		b.WriteString(strings.Repeat(" ", max(0, rnd.Intn(4)-2)))
		b.WriteString(word)
	}
	return b.String()
}

// P6.1: formulas that are right, and a token away from that, against the model.
func TestRandomTexts(t *testing.T) {
	rnd := rand.New(rand.NewSource(61))
	table := wide()
	right, wrong := 0, 0
	for range 8000 {
		list := random(rnd, rnd.Intn(7))
		if len(list) > 3000 {
			continue
		}
		other := fragments()[rnd.Intn(len(fragments()))]
		at, from := rnd.Intn(len(list)), rnd.Intn(len(list))
		changed, swapped := slices.Clone(list), slices.Clone(list)
		changed[at] = other
		swapped[at], swapped[from] = swapped[from], swapped[at]
		for _, one := range [][]string{list, changed, swapped, slices.Insert(slices.Clone(list), at, other), slices.Delete(slices.Clone(list), at, at+1), list[:at], append(slices.Clone(list), other)} {
			text := spaced(rnd, one)
			if bad := against(text, table); bad != "" {
				t.Fatal(bad)
			}
			if _, code, _ := Parse(text, table); code == api.OK {
				right++
			} else {
				wrong++
			}
		}
	}
	if right < 10000 || wrong < 10000 {
		t.Errorf("%d right ones, %d wrong ones", right, wrong)
	}
}

// P6.1: rows of fragments behind a beginning that is close to a limit, against the model.
func TestRandomAtLimits(t *testing.T) {
	rnd := rand.New(rand.NewSource(62))
	begins := func() string {
		near := func(most int) int { return max(0, most-rnd.Intn(8)) }
		switch rnd.Intn(8) {
		case 0:
			return strings.Repeat("(", near(32))
		case 1:
			return strings.Repeat("F(", near(32))
		case 2:
			return "-" + strings.Repeat("F(-(", near(16))
		case 3:
			return "F(" + strings.Repeat("1,", near(15))
		case 4:
			return "F(" + strings.Repeat("A1:B2,", near(15))
		case 5:
			return "1+F(-1" + strings.Repeat("%", near(1024))
		case 6:
			return strings.Repeat("1+", near(511)) + "-(1=-1%%%*"
		}
		return "1*" + strings.Repeat("-", rnd.Intn(3000)) + "(-" + strings.Repeat("-", rnd.Intn(1100))
	}
	list, table := fragments(), wide()
	for range 5000 {
		var b strings.Builder
		b.WriteString("=" + begins())
		for range rnd.Intn(12) {
			// Most of them such as go on, so that the reading gets somewhere.
			word := list[rnd.Intn(len(list))]
			if rnd.Intn(3) > 0 {
				word = strings.Fields("1 A1 TRUE + - * % ) ) ( F( ,1 ,A1:B2 =1 &1")[rnd.Intn(15)]
			}
			b.WriteString(word)
		}
		if bad := against(b.String(), table); bad != "" {
			t.Fatal(bad)
		}
	}
}
