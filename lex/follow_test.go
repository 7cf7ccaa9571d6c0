package lex

import (
	"iter"
	"slices"
	"sync"
	"testing"

	"oriel/api"
)

// P4.2: leaving at each token: the loop sees what it would have seen, and is told nothing more.
func TestLeave(t *testing.T) {
	for _, s := range texts()[:3000] {
		list := all(s)
		seq := Lex(s)
		for most := range len(list) + 1 {
			var got []api.Token
			for tok := range seq {
				if len(got) == most {
					break
				}
				got = append(got, tok)
			}
			if !slices.Equal(got, list[:most]) {
				t.Fatalf("Lex(%q), left behind %d tokens: %s", s, most, show(got))
			}
		}
	}
}

// P4.2: who says that he leaves is not asked again, at whichever token.
func TestLeftAlone(t *testing.T) {
	for _, s := range []string{"", "1", "=", "= ", "=1", "=A1+2.5", "=!", "=1!", "=(A0", `="a""b"&TRUE`, "=A1:B2 <> #DIV!"} {
		for most := 1; most <= len(all(s)); most++ {
			calls := 0
			Lex(s)(func(api.Token) bool {
				calls++
				return calls < most
			})
			if calls != most {
				t.Errorf("Lex(%q), left at token %d, calls %d times", s, most, calls)
			}
		}
	}
}

// P4.2: ranging again tells the same, however often, also where a loop was left ahead of it.
func TestAgain(t *testing.T) {
	for _, s := range texts()[:3000] {
		seq := Lex(s)
		want := slices.Collect(seq)
		for i := range 3 {
			for n := range i {
				for range seq {
					if n == 0 {
						break
					}
				}
			}
			if got := slices.Collect(seq); !slices.Equal(got, want) {
				t.Fatalf("Lex(%q) again: %s; at first %s", s, show(got), show(want))
			}
		}
	}
}

// P4.2: a loop within a loop, and one within that, each from the first token on, whole or left.
func TestWithin(t *testing.T) {
	for _, s := range []string{"", "=", "=1+2", "= SUM(A1:B3)", `="a""b"&TRUE`, "=A1 :B2", "=1<>2<=3"} {
		seq := Lex(s)
		want := all(s)
		var outer []api.Token
		for tok := range seq {
			outer = append(outer, tok)
			var inner []api.Token
			for tok := range seq {
				inner = append(inner, tok)
				for first := range seq {
					if first != want[0] {
						t.Errorf("Lex(%q), two loops within, begins with %s", s, show(tokens(first)))
					}
					break
				}
				if tok.At == outer[len(outer)-1].At {
					break
				}
			}
			if !slices.Equal(inner, want[:len(outer)]) {
				t.Errorf("Lex(%q), within, at token %d: %s", s, len(outer), show(inner))
			}
		}
		if !slices.Equal(outer, want) {
			t.Errorf("Lex(%q), around others: %s", s, show(outer))
		}
	}
}

// P4.2: two who read in turns do not disturb each other.
func TestInTurns(t *testing.T) {
	const s = `=IF(A1:B2>=0.5,"a""b",#MISS!)`
	seq := Lex(s)
	want := all(s)
	slow, stopSlow := iter.Pull(seq)
	fast, stopFast := iter.Pull(seq)
	defer stopSlow()
	defer stopFast()
	for i, tok := range want {
		if i%2 == 0 {
			if got, ok := slow(); !ok || got != want[i/2] {
				t.Errorf("who reads slowly is told %s, %v", show(tokens(got)), ok)
			}
		}
		if got, ok := fast(); !ok || got != tok {
			t.Errorf("who reads fast is told %s, %v", show(tokens(got)), ok)
		}
	}
	if got, ok := fast(); ok {
		t.Errorf("behind the last: %s", show(tokens(got)))
	}
}

// R5: several hands at one time are told the same.
func TestSideBySide(t *testing.T) {
	const s = `=IF(A1:B2>=0.5,"a""b",#MISS!)`
	seq := Lex(s)
	want := all(s)
	var group sync.WaitGroup
	for range 8 {
		group.Go(func() {
			for range 50 {
				if got := slices.Collect(seq); !slices.Equal(got, want) {
					t.Errorf("side by side: %s", show(got))
				}
			}
		})
	}
	group.Wait()
}

// What follows: one token is the last, TokEnd or TokWrong, and no other is one of these.
func TestOneLast(t *testing.T) {
	for _, s := range texts() {
		list := all(s)
		if len(list) == 0 {
			t.Fatalf("Lex(%q) tells nothing", s)
		}
		for i, tok := range list {
			last := tok.Kind == api.TokEnd || tok.Kind == api.TokWrong
			if last != (i == len(list)-1) {
				t.Fatalf("Lex(%q): %s", s, show(list))
			}
			if tok.Kind == api.TokEnd && tok.At != len(s) {
				t.Fatalf("Lex(%q) ends at %d", s, tok.At)
			}
		}
	}
}

// What follows: At rises from token to token, and stays in the text.
func TestAtRises(t *testing.T) {
	for _, s := range texts() {
		list := all(s)
		for i, tok := range list {
			if tok.At < 0 || tok.At > len(s) || i > 0 && tok.At <= list[i-1].At {
				t.Fatalf("Lex(%q): %s", s, show(list))
			}
		}
	}
}

// What follows: a blank that is put in where a token begins moves what stands behind it, and nothing else.
func TestBlankPutIn(t *testing.T) {
	for _, s := range texts() {
		list := all(s)
		if list[0].At == 0 {
			continue
		}
		for i, tok := range list {
			want := slices.Clone(list)
			for j := i; j < len(want); j++ {
				want[j].At++
			}
			with := s[:tok.At] + " " + s[tok.At:]
			if got := all(with); !slices.Equal(got, want) {
				t.Fatalf("Lex(%q) = %s\nLex(%q) = %s", s, show(list), with, show(got))
			}
		}
	}
}

// What follows: what stands from one token to the next, behind a `=` of its own, is that token.
func TestOwnText(t *testing.T) {
	for _, s := range texts() {
		list := all(s)
		if list[0].At == 0 {
			continue
		}
		for i, tok := range list[:len(list)-1] {
			own := "=" + s[tok.At:list[i+1].At]
			want := tok
			want.At = 1
			if got := all(own); !slices.Equal(got, tokens(want, end(len(own)))) {
				t.Fatalf("Lex(%q) = %s\nLex(%q) = %s", s, show(list), own, show(got))
			}
		}
	}
}
