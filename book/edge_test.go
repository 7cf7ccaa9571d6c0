package book

import (
	"math/rand"
	"strconv"
	"testing"

	"oriel/api"
	"oriel/content"
	"oriel/funcs"
)

// P14.2: the empty text is a text: it is taken, held and dropped, and says nothing.
func TestEmpty(t *testing.T) {
	b := New(funcs.New())
	drops(t, b, "", api.ErrBook)
	c, code := b.Take("")
	if code != api.OK || c == nil || !same(*c, content.Content{}) {
		t.Fatalf("the empty text: %s, %d", brief(c), code)
	}
	stands(t, b, 1, 1)
	if takes(t, b, "") != c {
		t.Error("another pointer")
	}
	stands(t, b, 1, 1)
	drops(t, b, " ", api.ErrBook)
	drops(t, b, "\x00", api.ErrBook)
	drops(t, b, "'", api.ErrBook)
	drops(t, b, "", api.OK)
	stands(t, b, 1, 1)
	drops(t, b, "", api.OK)
	stands(t, b, 0, 1)
	drops(t, b, "", api.ErrBook)
	takes(t, b, "")
	stands(t, b, 1, 2)
}

// P14.2: texts of up to 1024 bytes are taken, whatever a sheet's bound is; those of a byte more and of far more are not.
func TestLength(t *testing.T) {
	for _, piece := range []string{"x", "1", " ", "\x00", "\xff", "'", "=", "é"} {
		b := New(funcs.New())
		for _, size := range []int{1, 1022, 1023, 1024} {
			s := times(size, piece)[:size]
			if piece == "=" {
				refuses(t, b, s, api.ErrSyntax)
				continue
			}
			takes(t, b, s)
		}
		held := b.Held()
		for _, size := range []int{1025, 1026, 2048, 1 << 16} {
			refuses(t, b, times(size, piece)[:size], api.ErrTooLong)
			drops(t, b, times(size, piece)[:size], api.ErrBook)
		}
		stands(t, b, held, int64(held))
	}
	b := New(funcs.New())
	long := `="` + times(1021, "y") + `"`
	if c := takes(t, b, long); c == nil || !c.Is {
		t.Error("a formula of 1024 bytes")
	}
	refuses(t, b, `="`+times(1022, "y")+`"`, api.ErrTooLong)
	stands(t, b, 1, 1)
}

// P14.2, R2: the error is content.Read's, in its order; what is refused is not held, not counted, not kept, and can't be dropped.
func TestRefused(t *testing.T) {
	fresh, used := New(funcs.New()), New(funcs.New())
	for _, s := range right() {
		takes(t, used, s)
	}
	held, reads := used.Held(), used.Reads()
	for _, w := range wrongs() {
		for range 3 {
			refuses(t, fresh, w.s, w.code)
			refuses(t, used, w.s, w.code)
			forgot(t, fresh)
			stands(t, fresh, 0, 0)
			stands(t, used, held, reads)
			drops(t, fresh, w.s, api.ErrBook)
			drops(t, used, w.s, api.ErrBook)
			stands(t, used, held, reads)
		}
	}
	if len(used.entries) != held {
		t.Errorf("%d entries for %d texts", len(used.entries), held)
	}
}

// P14.2: a wrong text that is nearly one that is held is refused all the same, and changes nothing of that one.
func TestWrongBesideHeld(t *testing.T) {
	for s, w := range map[string]refused{"=1+1": {"=1+", api.ErrSyntax}, "=A1": {"==A1", api.ErrSyntax}, "=SUM(A1)": {"=SUN(A1)", api.ErrSyntax}, times(1024, "x"): {times(1025, "x"), api.ErrTooLong}, "=" + times(32, "(") + "1" + times(32, ")"): {"=" + times(33, "(") + "1" + times(33, ")"), api.ErrTooDeep}} {
		b := New(funcs.New())
		c := takes(t, b, s)
		refuses(t, b, w.s, w.code)
		drops(t, b, w.s, api.ErrBook)
		if takes(t, b, s) != c {
			t.Errorf("%s: another pointer behind %s", brief(s), brief(w.s))
		}
		stands(t, b, 1, 1)
		drops(t, b, s, api.OK)
		refuses(t, b, w.s, w.code)
		drops(t, b, s, api.OK)
		refuses(t, b, w.s, w.code)
		stands(t, b, 0, 1)
	}
}

// P14.2: texts that differ in a blank, in a letter's case or in what comes to the same are different texts.
func TestNearTexts(t *testing.T) {
	for _, pair := range [][2]string{{"1", "1 "}, {"1", " 1"}, {"1", "1.0"}, {"a", "A"}, {"", " "}, {"", "\x00"}, {"a", "a\x00"}, {"\xff", "\ufffd"}, {"é", "e\u0301"}, {"a", "'a"}, {"TRUE", "true"}, {"=1+1", "=1 +1"}, {"=1+1", "=1+1 "}, {"=1+1", "=(1+1)"}, {"=A1", "=A2"}, {"=A1", "'=A1"}, {times(1024, "x"), times(1023, "x")}, {times(1024, "x"), times(1023, "x") + "y"}, {times(1024, "x"), "y" + times(1023, "x")}} {
		b := New(funcs.New())
		first := takes(t, b, pair[0])
		drops(t, b, pair[1], api.ErrBook)
		stands(t, b, 1, 1)
		second := takes(t, b, pair[1])
		stands(t, b, 2, 2)
		if first == second {
			t.Errorf("%s: one pointer", brief(pair))
		}
		drops(t, b, pair[0], api.OK)
		drops(t, b, pair[0], api.ErrBook)
		if takes(t, b, pair[1]) != second {
			t.Errorf("%s: another pointer", brief(pair))
		}
		stands(t, b, 1, 2)
	}
}

// P14.2, P14.3: each byte makes another text, alone, ahead and behind; of texts in which one byte is another, each is held for itself.
func TestEachByte(t *testing.T) {
	b := New(funcs.New())
	list := []string{}
	for n := range 256 {
		s := string([]byte{byte(n)})
		list = append(list, s, "a"+s+"b", times(1023, "z")+s)
	}
	held := 0
	for _, s := range list {
		if takes(t, b, s) != nil {
			held++
		}
		stands(t, b, held, int64(held))
	}
	if held != len(list)-1 {
		t.Errorf("%d of %d texts are held: the one of just a = is wrong", held, len(list))
	}
	for _, s := range list {
		want := api.OK
		if s == "=" {
			want = api.ErrBook
		}
		drops(t, b, s, want)
		drops(t, b, s, api.ErrBook)
	}
	forgot(t, b)
}

// P14.6: many texts at one time, and many more one behind the other: what was forgotten leaves nothing.
func TestMany(t *testing.T) {
	b := New(funcs.New())
	const many = 20000
	for i := range many {
		takes(t, b, "=A1+"+strconv.Itoa(i))
	}
	stands(t, b, many, many)
	for i := range many {
		drops(t, b, "=A1+"+strconv.Itoa(i), api.OK)
	}
	stands(t, b, 0, many)
	forgot(t, b)
	for i := range many {
		takes(t, b, strconv.Itoa(i))
		if i >= 10 {
			drops(t, b, strconv.Itoa(i-10), api.OK)
		}
		if b.Held() > 11 || len(b.entries) != b.Held() {
			t.Fatalf("Held %d, with %d entries", b.Held(), len(b.entries))
		}
	}
	stands(t, b, 10, 2*many)
	for range 100000 {
		takes(t, b, "x")
	}
	stands(t, b, 11, 2*many+1)
	for range 100000 {
		drops(t, b, "x", api.OK)
	}
	drops(t, b, "x", api.ErrBook)
	stands(t, b, 10, 2*many+1)
}

// P14.2 to P14.6, by chance: each answer, Held and Reads behind each call are the model's.
func TestByChance(t *testing.T) {
	rnd := rand.New(rand.NewSource(141))
	list := right()
	for _, w := range wrongs() {
		if len(w.s) < 2000 {
			list = append(list, w.s)
		}
	}
	for round := range 60 {
		b, m := New(funcs.New()), &model{held: map[string]int{}, told: map[string]*content.Content{}}
		few := 1 + rnd.Intn(len(list))
		rnd.Shuffle(len(list), func(i, j int) { list[i], list[j] = list[j], list[i] })
		for range 1500 {
			s := list[rnd.Intn(few)]
			// Some rounds take more than they drop, some less.
			if rnd.Intn(5) < 1+round%4 {
				m.checkTake(t, b, s)
			} else {
				m.checkDrop(t, b, s)
			}
			if b.Held() != len(m.held) || b.Reads() != m.reads || len(b.entries) != len(m.held) {
				t.Fatalf("behind %s: Held %d, Reads %d, %d entries; want %d, %d", brief(s), b.Held(), b.Reads(), len(b.entries), len(m.held), m.reads)
			}
		}
	}
}
