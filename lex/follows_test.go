package lex_test

import (
	"math/rand"
	"slices"
	"strings"
	"testing"

	"turnout/api"
	"turnout/lex"
)

// P6.4

// texts hands over drawn texts of all kinds, with their words up to the fault and the fault, as the program tells them.
func texts(seed int64, f func(text string, words []lex.Token, fault api.Fault)) {
	r := rand.New(rand.NewSource(seed))
	for i := range 3000 {
		for _, s := range []string{drawn(r, r.Intn(30), i%3 > 0), drawnBytes(r, r.Intn(20))} {
			_, fault := lex.Tokens(s)
			f(s, collected(s), fault)
		}
	}
}

// offset is how many bytes a text has ahead of a place.
func offset(text string, at api.Pos) int {
	n := 0
	for range at.Line - 1 {
		n += strings.IndexByte(text[n:], 10) + 1
	}
	return n + at.Col - 1
}

func TestPlacesRise(t *testing.T) {
	texts(3, func(text string, words []lex.Token, fault api.Fault) {
		last := api.Pos{}
		for _, w := range words {
			if w.At.Line < last.Line || w.At.Line == last.Line && w.At.Col <= last.Col || w.At.Line < 1 || w.At.Col < 1 {
				t.Fatalf("%q: %v behind %v", text, w.At, last)
			}
			last = w.At
		}
		if at := fault.At; fault.Code != api.OK && (at.Line < last.Line || at.Line == last.Line && at.Col <= last.Col) {
			t.Fatalf("%q: the fault at %v behind %v", text, at, last)
		}
	})
}

func TestTextsStandThere(t *testing.T) {
	texts(4, func(text string, words []lex.Token, _ api.Fault) {
		for _, w := range words {
			if !strings.HasPrefix(text[offset(text, w.At):], w.Text) {
				t.Fatalf("%q: %+v does not stand there", text, w)
			}
			alone := w
			alone.At = api.Pos{Line: 1, Col: 1}
			checkBoth(t, w.Text, []lex.Token{alone}, api.Fault{})
		}
	})
}

// TestNothingElse: between words are blanks and remarks alone.
func TestNothingElse(t *testing.T) {
	texts(5, func(text string, words []lex.Token, fault api.Fault) {
		end := 0
		empty := func(to int) {
			if s := text[end:to]; between.FindString(s) != s {
				t.Fatalf("%q: %q stands between", text, s)
			}
		}
		for _, w := range words {
			empty(offset(text, w.At))
			end = offset(text, w.At) + len(w.Text)
		}
		if fault.Code != api.OK {
			empty(offset(text, fault.At))
		} else {
			empty(len(text))
		}
	})
}

func TestTwoTexts(t *testing.T) {
	r := rand.New(rand.NewSource(6))
	whole := func() string {
		for {
			s := drawn(r, r.Intn(20), false)
			if r.Intn(4) == 0 {
				s += "# and so on"
			}
			if _, f := lex.Tokens(s); f.Code == api.OK {
				return s
			}
		}
	}
	for range 3000 {
		a, b := whole(), whole()
		want := collected(a)
		for _, w := range collected(b) {
			w.At.Line += strings.Count(a, "\n") + 1
			want = append(want, w)
		}
		checkBoth(t, a+"\n"+b, want, api.Fault{})
	}
	half := strings.Repeat("a ", 16384)
	checkRead(t, half[1:]+"\n"+half)
	checkBoth(t, half+"\n"+half, nil, api.Fault{Code: api.ErrLong})
}

// TestEachIsUpToTheFault: the text ahead of the fault has just the words that Each tells.
func TestEachIsUpToTheFault(t *testing.T) {
	texts(7, func(text string, words []lex.Token, fault api.Fault) {
		ahead := text
		if fault.Code != api.OK {
			ahead = text[:offset(text, fault.At)]
		}
		if list, f := lex.Tokens(ahead); f != (api.Fault{}) || !slices.Equal(list, words) {
			t.Fatalf("%q: %s, %v; want %s", text, some(list), f, some(words))
		}
	})
}
