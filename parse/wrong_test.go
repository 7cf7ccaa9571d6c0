package parse

import (
	"strings"
	"testing"

	"oriel/api"
)

// P6.1: a text that is no formula at all, the empty one, `=` alone.
func TestNoFormula(t *testing.T) {
	for b := range 256 {
		if b != '=' {
			refuses(t, string([]byte{byte(b)}), every{}, api.ErrSyntax, 0)
			refuses(t, string([]byte{byte(b)})+"=1", every{}, api.ErrSyntax, 0)
		}
	}
	refuses(t, "", every{}, api.ErrSyntax, 0)
	refuses(t, "F(1)", every{}, api.ErrSyntax, 0)
	refuses(t, "=", every{}, api.ErrSyntax, 1)
	refuses(t, "=   ", every{}, api.ErrSyntax, 4)
	refuses(t, "= !", every{}, api.ErrSyntax, 2)
}

// tokens is one of each kind of token, and each sign; the last one is the end.
func tokens() []string {
	return []string{"1", `"x"`, "TRUE", "FALSE", "#DIV!", "A1", "A1:B2", "F", "(", ")", ",", "+", "-", "*", "/", "%", "&", "=", "<>", "<", "<=", ">", ">=", "!", ""}
}

// P6.1: each token at each place: it may stand there, and what is wrong behind it is told; or it may not, and is told itself.
func TestPlaces(t *testing.T) {
	const (
		thing  = ` 1 "x" TRUE FALSE #DIV! A1 F ( - `
		behind = " + - * / % & = <> < <= > >= "
	)
	for _, place := range []struct{ ahead, may string }{
		{"=", thing}, {"=(", thing}, {"=-", thing}, {"=--", thing}, {"=1+", thing}, {"=1-", thing}, {"=1*", thing}, {"=1/", thing}, {"=1&", thing}, {"=1=", thing}, {"=1<>", thing},
		{"=1<", thing}, {"=1<=", thing}, {"=1>", thing}, {"=1>=", thing}, {"=F(-", thing}, {"=F((", thing}, {"=F(1+", thing}, {"=F(1,-", thing}, {"=(1*(2-", thing},
		{"=F(", thing + "A1:B2 ) "}, {"=1+F(", thing + "A1:B2 ) "}, {"=F(1,G(", thing + "A1:B2 ) "}, {"=(F(", thing + "A1:B2 ) "},
		{"=F(1,", thing + "A1:B2 "}, {"=F(A1:B2,", thing + "A1:B2 "}, {"=F((1),", thing + "A1:B2 "}, {"=F(G(),1,", thing + "A1:B2 "},
		{"=F", " ( "}, {"=1+F", " ( "}, {"=(F", " ( "}, {"=F(G", " ( "}, {"=-F", " ( "},
		{"=1", behind}, {`="x"`, behind}, {"=TRUE", behind}, {"=FALSE", behind}, {"=#DIV!", behind}, {"=A1", behind}, {"=F()", behind}, {"=(1)", behind}, {"=1%", behind}, {"=-1", behind}, {"=1+2", behind},
		{"=1*2", behind}, {"=1=2", behind}, {"=F(A1:B2)", behind}, {"=F(1)%", behind}, {"=1+(2)", behind}, {"=-(1)", behind},
		{"=(1", behind + ") "}, {"=((1)", behind + ") "}, {"=(F()", behind + ") "}, {"=F((1", behind + ") "}, {"=(1+2%", behind + ") "}, {"=F(1,(A1", behind + ") "}, {"=(-1", behind + ") "},
		{"=F(1", behind + ") , "}, {"=F(1%", behind + ") , "}, {"=F(G()", behind + ") , "}, {"=F(1,2", behind + ") , "}, {"=F(A1:B2,2", behind + ") , "}, {"=(F((1)", behind + ") , "}, {"=F(-1+A1", behind + ") , "}, {"=F(G(A1:B2)", behind + ") , "},
		{"=F(A1:B2", " ) , "}, {"=F(1,A1:B2", " ) , "}, {"=F(A1:B2,A1:B2", " ) , "}, {"=(F(A1:B2", " ) , "}, {"=1+F(G(A1:B2", " ) , "},
	} {
		for _, token := range tokens() {
			// A blank, so that no token is read as one with what stands ahead of it.
			text := place.ahead + " " + token
			at := len(place.ahead) + 1
			closed := strings.Count(place.ahead, "(") == strings.Count(place.ahead, ")")
			switch {
			case token == "" && closed && place.may == behind:
				if !reading(text, every{}) {
					t.Errorf("%q is refused", text)
				}
			case token == "":
				refuses(t, text, every{}, api.ErrSyntax, at)
			case strings.Contains(place.may, " "+token+" "):
				refuses(t, text+" !", every{}, api.ErrSyntax, len(text)+1)
				refuses(t, text+" A1:", every{}, api.ErrSyntax, len(text)+1)
			default:
				refuses(t, text, every{}, api.ErrSyntax, at)
				refuses(t, text+" 1", every{}, api.ErrSyntax, at)
				refuses(t, text+" !", every{}, api.ErrSyntax, at)
			}
		}
	}
}

// P6.1: TRUE and FALSE are no names, also where the table knows such.
func TestTruthsAreNoNames(t *testing.T) {
	for _, word := range []string{"TRUE", "FALSE"} {
		for _, behind := range []string{"()", "(1)", " (1)", "(A1:B2)", "("} {
			at := strings.Index(behind, "(")
			refuses(t, "="+word+behind, every{}, api.ErrSyntax, 1+len(word)+at)
			refuses(t, "=1+F("+word+behind, wide(), api.ErrSyntax, 5+len(word)+at)
		}
		reads(t, "="+word+"+("+word+")", every{}, nodesOf(word+" "+word+" +"))
		reads(t, "=F("+word+")", every{}, nodesOf(word+" F/1"))
		// Without a table that knows anything they are what they are; with a letter more they are names.
		reads(t, "="+word, table{}, nodesOf(word))
		refuses(t, "="+word+"S", table{}, api.ErrSyntax, 1)
		refuses(t, "="+word+"_()", table{}, api.ErrSyntax, 1)
		reads(t, "="+word+"S()", every{}, []api.Node{{Kind: api.NodeCall, Name: word + "S"}})
	}
}

// P6.1: a name that the table does not know is told at once, whatever stands behind it.
func TestUnknownNames(t *testing.T) {
	for _, name := range []string{"MIN", "MA", "MAXX", "M", "MAX_", "A1B", "NONE"} {
		for _, behind := range []string{"", "(", "()", "(1)", "(1", "!", "1", ")", "+", " ", "(A1:B2+1)", "(MIN())", times(33, "(")} {
			if behind == "1" {
				behind = " 1"
			}
			refuses(t, "="+name+behind, chapter(), api.ErrSyntax, 1)
			refuses(t, "=MAX(1, "+name+behind, chapter(), api.ErrSyntax, 8)
			refuses(t, "=- -"+name+behind, chapter(), api.ErrSyntax, 4)
		}
	}
	// Where no name may stand, it is told at the same place.
	refuses(t, "=1 MIN(1)", chapter(), api.ErrSyntax, 3)
	refuses(t, "=1 MAX(1)", chapter(), api.ErrSyntax, 3)
	// What is no name is never asked for.
	reads(t, "=A1+TRUE", table{}, nodesOf("A1 TRUE +"))
}

// P6.1: arguments that are not taken are told at the `)`, by the call's name: what stands ahead of that comes first, what stands behind it later.
func TestNotTaken(t *testing.T) {
	for _, behind := range []string{"", "!", "+", ")", "+MIN(1)", " 2", times(33, "(")} {
		refuses(t, "=MAX()"+behind, chapter(), api.ErrSyntax, 1)
		refuses(t, "=MAX( )"+behind, chapter(), api.ErrSyntax, 1)
		refuses(t, "=MAX(1,2,3)"+behind, chapter(), api.ErrSyntax, 1)
		refuses(t, "=1+MAX(1,A1:B2)"+behind, chapter(), api.ErrSyntax, 3)
		refuses(t, "=MAX(1,MAX())"+behind, chapter(), api.ErrSyntax, 7)
		refuses(t, "=MAX(MAX(1),MAX(2),3)"+behind, chapter(), api.ErrSyntax, 1)
		refuses(t, "=MAX((MAX(1,2,3)))"+behind, chapter(), api.ErrSyntax, 6)
	}
	refuses(t, "=MAX(1,2,3", chapter(), api.ErrSyntax, 10)
	refuses(t, "=MAX(1,2,3!)", chapter(), api.ErrSyntax, 10)
	refuses(t, "=MAX(1,2,3,", chapter(), api.ErrSyntax, 11)
	refuses(t, "=MAX(1,2,MIN(3))", chapter(), api.ErrSyntax, 9)
	refuses(t, "=MAX(1,2,MAX())", chapter(), api.ErrSyntax, 9)
	refuses(t, "=MAX(1,A1:B2,)", chapter(), api.ErrSyntax, 13)
	refuses(t, "=NO()", wide(), api.ErrSyntax, 1)
}

// P6.1: rectangles stand as whole arguments, and nowhere else.
func TestRectangles(t *testing.T) {
	for text, at := range map[string]int{
		"=A1:B2": 1, "= A1:B2": 2, "=(A1:B2)": 2, "=-A1:B2": 2, "=1+A1:B2": 3, "=A1:B2+1": 1, "=A1:B2%": 1, "=F((A1:B2))": 4, "=F(-A1:B2)": 4, "=F(1+A1:B2)": 5, "=F(A1:B2+1)": 8, "=F(A1:B2%)": 8,
		"=F(A1:B2 A1:B2)": 9, "=F(A1:B2(1))": 8, "=F(1 A1:B2)": 5, "=F(A1:B2": 8, "=F(A1:B2!": 8, "=F(A1:B2:C3)": 8, "=F(A1:B2-1)": 8, "=F(A1:B2=1)": 8, "=F(A1:B2&1)": 8, "=F(A1:B2)A1:B2": 9,
	} {
		refuses(t, text, every{}, api.ErrSyntax, at)
	}
}

// P6.1: several things are wrong: the first decides, by where it is found from the left.
func TestFirstDecides(t *testing.T) {
	deep := times(33, "(")
	wrongs := []struct {
		text string
		code api.Errno
		at   int
	}{
		{"!", api.ErrSyntax, 0}, {")", api.ErrSyntax, 0}, {"*", api.ErrSyntax, 0}, {"A1:B2", api.ErrSyntax, 0}, {"MIN(1)", api.ErrSyntax, 0}, {"MAX()", api.ErrSyntax, 0}, {"MAX 1", api.ErrSyntax, 4},
		{"MAX(1,2,3)", api.ErrSyntax, 0}, {"1 2", api.ErrSyntax, 2}, {"(1,", api.ErrSyntax, 2}, {"MAX(A1:B2+1)", api.ErrSyntax, 9}, {"MAX(1,)", api.ErrSyntax, 6}, {"#CYCLE!", api.ErrSyntax, 0}, {"A0", api.ErrSyntax, 0},
		{deep, api.ErrTooDeep, 32}, {times(32, "(") + "MAX(", api.ErrTooDeep, 35}, {"MAX(" + times(15, "1,") + "1,", api.ErrSyntax, 35}, {fill(1025), api.ErrSyntax, 1024}, {"-" + fill(1024), api.ErrSyntax, 0}, {"MAX(" + fill(1024) + ")", api.ErrSyntax, 0},
	}
	for _, one := range wrongs {
		for _, two := range wrongs {
			for _, between := range []string{"", " ", "+", ",", ")", " - "} {
				// What is joined to one token with what is wrong is another thing.
				if between == "" && (one.text == "A1:B2" || one.text == "1 2" || one.text == "A0" || one.text == "MAX 1") {
					continue
				}
				refuses(t, "="+one.text+between+two.text, chapter(), one.code, 1+one.at)
				// With one node more ahead of it, other nodes are too many.
				if !strings.Contains(one.text, "%") {
					refuses(t, "= 7& "+one.text+between+two.text, chapter(), one.code, 5+one.at)
				}
			}
		}
	}
}
