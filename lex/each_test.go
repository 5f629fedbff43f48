package lex_test

import (
	"iter"
	"slices"
	"strings"
	"testing"

	"turnout/api"
	"turnout/lex"
)

// P6.2 (what Each tells is held against the words in every test of Tokens, too)

// TestEachToFault: the words ahead of the fault are told.
func TestEachToFault(t *testing.T) {
	_, faulty := pieces()
	for _, s := range faulty {
		want := []lex.Token{named("a", 1, 1), named("b", 2, 1)}
		if got := collected("a\nb " + s + " c"); !slices.Equal(got, want) {
			t.Errorf("Each up to %q: %s", s, some(got))
		}
		if got := collected(s + " c"); len(got) > 0 {
			t.Errorf("Each from %q on: %s", s, some(got))
		}
	}
}

func TestEachLong(t *testing.T) {
	long := lex.Each("a b " + strings.Repeat(" ", api.MaxText-3))
	if long == nil {
		t.Fatal("no iterator")
	}
	for w := range long {
		t.Errorf("%+v", w)
	}
	if got := collected("a b " + strings.Repeat(" ", api.MaxText-4)); len(got) != 2 {
		t.Error(some(got))
	}
}

// R5

func TestEachIsNeverNil(t *testing.T) {
	for _, s := range []string{"", " ", "#", "a", "!", "\xff", strings.Repeat("a", 65536), strings.Repeat("a", 65537), strings.Repeat("a", 1<<20)} {
		if lex.Each(s) == nil {
			t.Errorf("Each(%s) is nil", short(s))
		}
	}
}

func TestEachLeftEarly(t *testing.T) {
	all := lex.Each("a b\nc 1 ! d")
	want := collected("a b\nc 1")
	if len(want) != 4 {
		t.Fatal(some(want))
	}
	for n := 1; n <= 4; n++ {
		var got []lex.Token
		for w := range all {
			got = append(got, w)
			if len(got) == n {
				break
			}
		}
		if !slices.Equal(got, want[:n]) {
			t.Errorf("left at %d: %s", n, some(got))
		}
	}
	if got := slices.Collect(all); !slices.Equal(got, want) {
		t.Errorf("behind that: %s", some(got))
	}
}

func TestEachTwice(t *testing.T) {
	for _, s := range []string{"", "a", "on ip.dst { 0x0a & 255: up; } # end", "a\nb !"} {
		all := lex.Each(s)
		want, _ := read(s)
		for range 3 {
			if got := slices.Collect(all); !slices.Equal(got, want) {
				t.Errorf("Each(%q): %s", s, some(got))
			}
		}
	}
}

func TestEachWithinItself(t *testing.T) {
	all := lex.Each("a\nb c 0x2 !")
	want := collected("a\nb c 0x2")
	var outer []lex.Token
	for w := range all {
		outer = append(outer, w)
		var inner []lex.Token
		for v := range all {
			inner = append(inner, v)
			if len(inner) == len(outer) && len(outer)%2 == 0 {
				break
			}
		}
		told := len(want)
		if len(outer)%2 == 0 {
			told = len(outer)
		}
		if !slices.Equal(inner, want[:told]) {
			t.Errorf("within %+v: %s", w, some(inner))
		}
	}
	if !slices.Equal(outer, want) {
		t.Error(some(outer))
	}
}

func TestEachSideBySide(t *testing.T) {
	all := lex.Each("a\nb c 0x2")
	want := collected("a\nb c 0x2")
	one, stopOne := iter.Pull(all)
	two, stopTwo := iter.Pull(all)
	defer stopOne()
	defer stopTwo()
	one()
	for i, w := range want {
		if got, ok := two(); !ok || got != w {
			t.Errorf("the second one: %+v, %v; want %+v", got, ok, w)
		}
		got, ok := one()
		if last := i == len(want)-1; ok == last || !last && got != want[i+1] {
			t.Errorf("the first one: %+v, %v", got, ok)
		}
	}
	if got, ok := two(); ok {
		t.Errorf("behind the last one: %+v", got)
	}
}
