package schema_test

import (
	"math/rand"
	"regexp"
	"strings"
	"testing"

	"turnout/api"
	"turnout/schema"
)

// P7.1

const theReserved = "accept action add again apply can control default drop else exact exit fixed header if key meta on prefix range reject remove size state sum table take ternary valid"

var (
	nameForm = regexp.MustCompile(`^[a-z][a-z0-9_]{0,31}$`)
	reserved = regexp.MustCompile(`^(?:` + strings.ReplaceAll(theReserved, " ", "|") + `)$`)
)

// isName is DOC.md's word, as patterns.
func isName(s string) bool { return nameForm.MatchString(s) && !reserved.MatchString(s) }

func checkName(t *testing.T, s string, want bool) {
	t.Helper()
	if schema.IsName(s) != want {
		t.Errorf("IsName(%.60q): %v", s, !want)
	}
}

func TestIsName(t *testing.T) {
	for _, s := range []string{"a", "z", "a0", "z9", "a_", "a__b", "tcp_port", "insert", "modify", "delete", "clear", "accepts", "accep", "on_", "o", "metas", strings.Repeat("a", 31), strings.Repeat("a", 32), "z" + strings.Repeat("_", 31), "z" + strings.Repeat("9", 31)} {
		checkName(t, s, true)
	}
	for _, s := range []string{
		"", "0", "9a", "_", "_a", "A", "Tcp", "tCp", "tcP", " ", " a", "a ", "a\n", "\na", "a b", "a.b", "a-b", "a:", "{", "\x00", "a\x00", "\xc8", "a\xc8", "a\u00e9", "\u00e4", "\u0430", "a\u0660", "\ufffd", "a\ufffd",
		strings.Repeat("a", 33), strings.Repeat("a", 1<<20), "a" + strings.Repeat("\u00e4", 15),
	} {
		checkName(t, s, false)
	}
}

func TestReservedAreNoNames(t *testing.T) {
	list := strings.Fields(theReserved)
	if len(list) != 29 {
		t.Fatalf("%d words", len(list))
	}
	for _, s := range list {
		checkName(t, s, false)
		checkName(t, s+"s", true)
		checkName(t, "x"+s, true)
		checkName(t, s+" ", false)
		checkName(t, strings.ToUpper(s), false)
		checkName(t, s[:1]+s, true)
	}
}

// TestNamesOfBytes: each byte as the first one, within, and as the last one.
func TestNamesOfBytes(t *testing.T) {
	for b := range 256 {
		s := string([]byte{byte(b)})
		for _, text := range []string{s, s + "x", "x" + s, "x" + s + "x", strings.Repeat("x", 31) + s, strings.Repeat("x", 32) + s} {
			checkName(t, text, isName(text))
		}
	}
}

func TestDrawnNames(t *testing.T) {
	r := rand.New(rand.NewSource(1))
	const signs = "aeontdmzr09_A. \xc8"
	for range 100000 {
		b := make([]byte, r.Intn(6))
		for i := range b {
			b[i] = signs[r.Intn(len(signs))]
		}
		checkName(t, string(b), isName(string(b)))
	}
}

// TestNamesEverywhere: what is no name is none of a thing, of a field or of a parameter.
func TestNamesEverywhere(t *testing.T) {
	for _, name := range append(strings.Fields(theReserved), "", "Eth", "_a", "1", "a b", strings.Repeat("a", 33)) {
		checkTurned(t, []turned{
			{"header", func(s *api.Schema) { s.Headers[2].Name = name }, api.ErrName, "header " + name},
			{"field", func(s *api.Schema) { s.Headers[2].Fields[1].Name = name }, api.ErrName, "header opt"},
			{"metadata", func(s *api.Schema) { s.Meta[1].Name = name }, api.ErrName, "meta"},
			{"state", func(s *api.Schema) { s.States[2].Name = name; s.States[1].Next = name }, api.ErrName, "state " + name},
			{"action", func(s *api.Schema) { s.Actions[3].Name = name }, api.ErrName, "action " + name},
			{"parameter", func(s *api.Schema) { s.Actions[1].Params[1].Name = name }, api.ErrName, "action hop"},
			{"table", func(s *api.Schema) { s.Tables[2].Name = name }, api.ErrName, "table " + name},
		})
	}
}
