package lex_test

import (
	"math/rand"
	"slices"
	"strings"
	"testing"

	"turnout/lex"
)

// P6.3

// theReserved are DOC.md's.
const theReserved = "accept action add again apply can control default drop else exact exit fixed header if key meta on prefix range reject remove size state sum table take ternary valid"

func checkName(t *testing.T, s string, want bool) {
	t.Helper()
	if lex.IsName(s) != want {
		t.Errorf("IsName(%s): %v", short(s), !want)
	}
}

func TestIsName(t *testing.T) {
	for _, s := range []string{"a", "z", "a0", "z9", "a_", "a__b", "tcp_port", "insert", "modify", "accepts", "accep", "on_", "o", "n", strings.Repeat("a", 31), strings.Repeat("a", 32), "z" + strings.Repeat("_", 31)} {
		checkName(t, s, true)
	}
	for _, s := range []string{
		"", "0", "9a", "_", "_a", "A", "Tcp", "tCp", "tcP", " ", " a", "a ", "a\n", "\na", "a b", "a#", "#", "a.b", "a-b", "a:", "{", "==", "0x1", "\x00", "a\x00", "\xc8", "a\xc8", "a\u00e4", "\u00e4", "\u0430", "a\u0660", "\ufffd", "a\ufffd",
		strings.Repeat("a", 33), strings.Repeat("a", 65537), strings.Repeat("a", 1<<20), "a" + strings.Repeat("\u00e4", 15), "a" + strings.Repeat("\u00e4", 16),
	} {
		checkName(t, s, false)
	}
	for _, s := range strings.Fields(theReserved) {
		checkName(t, s, false)
		checkName(t, s+"s", true)
		checkName(t, "x"+s, true)
		checkName(t, s+" ", false)
		checkName(t, strings.ToUpper(s), false)
	}
}

// TestIsNameOfBytes: each byte as the first one, within, and as the last one.
func TestIsNameOfBytes(t *testing.T) {
	for b := range 256 {
		s := string([]byte{byte(b)})
		small := b >= 'a' && b <= 'z'
		within := small || b >= '0' && b <= '9' || b == '_'
		checkName(t, s, small)
		checkName(t, s+"x", small)
		checkName(t, "x"+s, within)
		checkName(t, "x"+s+"x", within)
		checkName(t, strings.Repeat("x", 31)+s, within)
	}
}

// TestNamesAreWords: IsName tells those texts that are one word of the kind Name.
func TestNamesAreWords(t *testing.T) {
	r := rand.New(rand.NewSource(2))
	for range 20000 {
		s := drawnBytes(r, r.Intn(4))
		list, _ := lex.Tokens(s)
		checkName(t, s, len(list) == 1 && list[0].Kind == lex.Name && list[0].Text == s)
	}
}

func TestReserved(t *testing.T) {
	got := lex.Reserved()
	if want := strings.Fields(theReserved); !slices.Equal(got, want) {
		t.Errorf("%q; want %q", got, want)
	}
	if !slices.IsSorted(got) || len(got) != 29 {
		t.Errorf("%d words", len(got))
	}
}
