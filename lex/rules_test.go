package lex_test

import (
	"slices"
	"strings"
	"sync"
	"testing"
	"unsafe"

	"turnout/api"
	"turnout/lex"
)

// R1

// TestAllPairs: each text of two bytes is answered.
func TestAllPairs(t *testing.T) {
	for a := range 256 {
		for b := range 256 {
			checkRead(t, string([]byte{byte(a), byte(b)}))
		}
	}
}

// TestVeryLong: far above the limit, too.
func TestVeryLong(t *testing.T) {
	for _, piece := range []string{"a", "0", " ", "\xff", "# ", "\n"} {
		checkBoth(t, strings.Repeat(piece, 1<<22), nil, api.Fault{Code: api.ErrLong})
	}
}

// R3

// mutable is a text over bytes that can be changed behind its back.
func mutable(s string) (string, []byte) {
	b := []byte(s)
	return unsafe.String(&b[0], len(b)), b
}

// TestHandedInIsNotKept: neither in the words, nor in the iterator.
func TestHandedInIsNotKept(t *testing.T) {
	const s = "on ip.dst { 0x0a & 255: up; } # end"
	want, _ := read(s)
	text, under := mutable(s)
	list, _ := lex.Tokens(text)
	all := lex.Each(text)
	told := slices.Collect(all)
	if string(under) != s {
		t.Errorf("it was changed: %q", under)
	}
	copy(under, strings.Repeat("!", len(under)))
	for name, got := range map[string][]lex.Token{"Tokens": list, "Each": told, "Each, again": slices.Collect(all)} {
		if !slices.Equal(got, want) {
			t.Errorf("%s: %s", name, some(got))
		}
	}
}

// TestTokensAreTheirOwners: what is done to a list that was answered is not seen in another.
func TestTokensAreTheirOwners(t *testing.T) {
	for _, s := range []string{"a", "a b", "on ip.dst { 0x0a & 255: up; }"} {
		want, _ := read(s)
		list, _ := lex.Tokens(s)
		other, _ := lex.Tokens(s)
		clear(list[:cap(list)])
		if !slices.Equal(other, want) {
			t.Errorf("Tokens(%q): %s", s, some(other))
		}
		checkRead(t, s)
	}
}

func TestTextsAreTheirOwners(t *testing.T) {
	const s = "on a1 == 12 on a1 == 12"
	list, _ := lex.Tokens(s)
	other, _ := lex.Tokens(s)
	all := slices.Concat(list, other, collected(s))
	for i, w := range all {
		for _, v := range all[:i] {
			if unsafe.StringData(w.Text) == unsafe.StringData(v.Text) {
				t.Errorf("%+v and %+v share their memory", v, w)
			}
		}
	}
}

func TestReservedIsItsOwners(t *testing.T) {
	want := strings.Fields(theReserved)
	list, other := lex.Reserved(), lex.Reserved()
	for i := range list[:cap(list)] {
		list[:cap(list)][i] = "x"
	}
	slices.Sort(append(list, "a", "b"))
	if !slices.Equal(other, want) || !slices.Equal(lex.Reserved(), want) {
		t.Errorf("%q, %q", other, lex.Reserved())
	}
	checkName(t, "x", true)
	checkName(t, "accept", false)
	checkOne(t, "accept", lex.Word, api.Bits{})
}

// R4

// TestSideBySide: the calls answer the same whoever else calls them, and so does one iterator.
func TestSideBySide(t *testing.T) {
	const s = "on ip.dst { 0x0a & 255: up; } # end\n!"
	want, fault := read(s)
	each := lex.Each(s)
	var all sync.WaitGroup
	for range 8 {
		all.Go(func() {
			for range 50 {
				if list, f := lex.Tokens(s); f != fault || len(list) > 0 {
					t.Errorf("Tokens: %s, %v", some(list), f)
				}
				if got := slices.Collect(each); !slices.Equal(got, want) {
					t.Errorf("Each: %s", some(got))
				}
				clear(lex.Reserved())
			}
		})
	}
	all.Wait()
}
