package match_test

import (
	"math/rand"
	"strings"
	"testing"

	"turnout/api"
	"turnout/match"
)

// P11.5

// TestTexts: of all kinds and widths.
func TestTexts(t *testing.T) {
	s := whole()
	great := "0x" + strings.Repeat("f", 32)
	for _, x := range []struct {
		table     string
		e         api.Entry
		who, call string
	}{
		{"route", entry(0, call("none"), begins(0, 0), exactly(0)), "0x0/0, 0x0", "none()"},
		{"route", entry(0, call("out", 0), begins(0x0a000000, 8), exactly(255)), "0xa000000/8, 0xff", "out(0x0)"},
		{"route", entry(0, api.Call{Action: "hop", Args: []api.Bits{n(1<<48 - 1), n(16), most}}, begins(0xffffffff, 32), exactly(10)), "0xffffffff/32, 0xa", "hop(0xffffffffffff, 0x10, " + great + ")"},
		{"acl", entry(1, call("grow", 0, 1), between(0, 511), masked(0, 0), exactly(0), api.Match{Mask: most}), "0x0..0x1ff, 0x0&0x0, 0x0, 0x0.." + great + " @ 1", "grow(0x0, 0x1)"},
		{"acl", entry(api.MaxPriority, call("out", 511), between(9, 9), masked(0xabcdef012345, 1<<48-1), exactly(1), api.Match{Value: api.Bits{Hi: 1}, Mask: api.Bits{Hi: 1, Lo: 1}}), "0x9..0x9, 0xabcdef012345&0xffffffffffff, 0x1, 0x10000000000000000..0x10000000000000001 @ 16777216", "out(0x1ff)"},
		{"mac", entry(0, call("none"), exactly(0x10), api.Match{Value: most}, exactly(0)), "0x10, " + great + ", 0x0", "none()"},
		{"long", entry(0, call("none"), api.Match{Value: api.Bits{Hi: 1 << 63}, Len: 100}), "0x80000000000000000000000000000000/100", "none()"},
	} {
		checkTexts(t, s, x.table, x.e, x.who, x.who+" -> "+x.call)
	}
}

// TestWrongTexts: what is the text of no entry of the table t.
func TestWrongTexts(t *testing.T) {
	for _, text := range []string{
		"", " ", "0x1", "0x1, 0x1200", "0x1, 0x1200/", "0x1, /8", ", 0x1200/8", "0x1, ", "0x1, 0x1200/8 ->", "0x1, 0x1200/8 -> ",
		"0x1, 0x1200/8 -> g", "0x1, 0x1200/8 -> g(", "0x1, 0x1200/8 -> g)", "0x1, 0x1200/8 -> ()", "0x1, 0x1200/8 -> g())",
		"0x1, 0x1200/8 -> g() ", " 0x1, 0x1200/8 -> g()", "0x1, 0x1200/8 -> g()\n", "0x1, 0x1200/8 -> g()\x00",
		"0x1, 0x1200/8 -> g ()", "0x1, 0x1200/8 -> g( )", "0x1, 0x1200/8 ->g()", "0x1, 0x1200/8-> g()", "0x1, 0x1200/8  -> g()", "0x1, 0x1200/8 -> -> g()", "0x1, 0x1200/8 -> g() -> g()",
		"0x1,0x1200/8 -> g()", "0x1,  0x1200/8 -> g()", "0x1 , 0x1200/8 -> g()", "0x1; 0x1200/8 -> g()", "0x1, 0x1200/8, -> g()", "0x1, 0x1200/8,  -> g()", "0x1, 0x1200/8, 0x1 -> g()",
		"0x01, 0x1200/8 -> g()", "0x00, 0x1200/8 -> g()", "0X1, 0x1200/8 -> g()", "0xa, 0X1200/8 -> g()", "0xA, 0x1200/8 -> g()", "0x, 0x1200/8 -> g()", "1, 0x1200/8 -> g()", "0b1, 0x1200/8 -> g()", "-0x1, 0x1200/8 -> g()", "+0x1, 0x1200/8 -> g()", "0x1, 12:00/8 -> g()", "0x1_0, 0x1200/8 -> g()", "0xg, 0x1200/8 -> g()",
		"0x1, 0x1200/08 -> g()", "0x1, 0x1200/0x8 -> g()", "0x1, 0x1200/+8 -> g()", "0x1, 0x1200/-8 -> g()", "0x1, 0x1200/8/8 -> g()", "0x1, 0x1200/ 8 -> g()", "0x1, 0x1200 /8 -> g()", "0x1, 0x1200&0xff00 -> g()", "0x1, 0x1200..0x1300 -> g()", "0x1, 0x0/00 -> g()", "0x1, 0x0/-0 -> g()", "0x1, 0x0/ -> g()", "0x1, 0x0/x -> g()",
		"0x1, 0x0/18446744073709551616 -> g()", "0x1, 0x0/18446744073709551624 -> g()", "0x1, 0x0/99999999999999999999999 -> g()",
		"0x1, 0x1234/8 -> g()", "0x100, 0x1200/8 -> g()", "0x1, 0x10000/8 -> g()", "0x1, 0x0/17 -> g()", "0x10000000000000000, 0x0/0 -> g()", "0x100000000000000000000000000000000, 0x0/0 -> g()",
		"0x1/8, 0x1200/8 -> g()", "0x1&0xff, 0x1200/8 -> g()", "0x1200/8, 0x1 -> g()",
		"0x1, 0x1200/8 @ 0 -> g()", "0x1, 0x1200/8 @ 1 -> g()", "0x1, 0x1200/8 @ -> g()", "0x1, 0x1200/8 @  -> g()",
		"0x1, 0x1200/8 -> f()", "0x1, 0x1200/8 -> f", "0x1, 0x1200/8 -> f(256)", "0x1, 0x1200/8 -> f(0x200)", "0x1, 0x1200/8 -> f(0x0, 0x0)", "0x1, 0x1200/8 -> f(0x0,)", "0x1, 0x1200/8 -> f(0x0, )", "0x1, 0x1200/8 -> f( 0x0)", "0x1, 0x1200/8 -> f(0x00)", "0x1, 0x1200/8 -> f(0x0) ", "0x1, 0x1200/8 -> f(0x0", "0x1, 0x1200/8 -> f(0x0))", "0x1, 0x1200/8 -> f((0x0)", "0x1, 0x1200/8 -> f(0xFF)",
		"0x1, 0x1200/8 -> g(0x0)", "0x1, 0x1200/8 -> h()", "0x1, 0x1200/8 -> G()", "0x1, 0x1200/8 -> gg()", "0x1, 0x1200/8 -> g; g()", "g()", " -> g()", "-> g()", "0x1 -> g()",
		"insert t 0x1, 0x1200/8 -> g()", "0x2&0x3, 0x5..0x9 @ 7 -> g()", "0x2&0x3, 0x5..0x9 @ 7", "\xff, 0x1200/8 -> g()", "０x1, 0x1200/8 -> g()",
	} {
		noText(t, small(), "t", text, api.ErrEntry)
	}
	for _, text := range []string{
		"", "0x2&0x3, 0x5..0x9", "0x2&0x3, 0x5..0x9 @", "0x2&0x3, 0x5..0x9 @ ", "0x2&0x3, 0x5..0x9 -> g()",
		"0x2&0x3, 0x5..0x9 @ 0 -> g()", "0x2&0x3, 0x5..0x9 @ 16777217 -> g()", "0x2&0x3, 0x5..0x9 @ 07 -> g()", "0x2&0x3, 0x5..0x9 @ 0x7 -> g()", "0x2&0x3, 0x5..0x9 @ -7 -> g()", "0x2&0x3, 0x5..0x9 @ +7 -> g()",
		"0x2&0x3, 0x5..0x9 @7 -> g()", "0x2&0x3, 0x5..0x9@ 7 -> g()", "0x2&0x3, 0x5..0x9  @ 7 -> g()", "0x2&0x3, 0x5..0x9 @ 7 @ 7 -> g()", "0x2&0x3, 0x5..0x9 @ 7  -> g()", "0x2&0x3 @ 7, 0x5..0x9 -> g()", "@ 7 -> g()",
		"0x2&0x3, 0x5..0x9 @ 18446744073709551617 -> g()", "0x2&0x3, 0x5..0x9 @ 4294967297 -> g()",
		"0x2, 0x5..0x9 @ 7 -> g()", "0x2&, 0x5..0x9 @ 7 -> g()", "&0x3, 0x5..0x9 @ 7 -> g()", "0x2 & 0x3, 0x5..0x9 @ 7 -> g()", "0x2&0x3&0x3, 0x5..0x9 @ 7 -> g()", "0x2&0x03, 0x5..0x9 @ 7 -> g()", "0x2&3, 0x5..0x9 @ 7 -> g()", "0x4&0x3, 0x5..0x9 @ 7 -> g()", "0x2&0x103, 0x5..0x9 @ 7 -> g()", "0x2/3, 0x5..0x9 @ 7 -> g()", "0x2..0x3, 0x5..0x9 @ 7 -> g()",
		"0x2&0x3, 0x5 @ 7 -> g()", "0x2&0x3, 0x5.. @ 7 -> g()", "0x2&0x3, ..0x9 @ 7 -> g()", "0x2&0x3, 0x5.0x9 @ 7 -> g()", "0x2&0x3, 0x5...0x9 @ 7 -> g()", "0x2&0x3, 0x5..0x9..0x9 @ 7 -> g()", "0x2&0x3, 0x5 .. 0x9 @ 7 -> g()", "0x2&0x3, 0x9..0x5 @ 7 -> g()", "0x2&0x3, 0x5..0x10000 @ 7 -> g()", "0x2&0x3, 0x5&0x9 @ 7 -> g()", "0x2&0x3, 0x5..9 @ 7 -> g()",
		"0x2&0x3, 0x5..0x9 @ 7 -> f(0x1)", "0x2&0x3, 0x5..0x9 @ 7 -> g(0x1)",
	} {
		noText(t, small(), "u", text, api.ErrEntry)
	}
}

// TestWhoAndWhole: a whole text is none of who an entry is, nor the other way round.
func TestWhoAndWhole(t *testing.T) {
	s := small()
	for table, e := range map[string]api.Entry{"t": inT(), "u": inU()} {
		whole, _ := match.Text(s, table, e)
		who, _ := match.WhoText(s, table, e)
		if got, code := match.ParseWho(s, table, whole); !same(got, api.Entry{}) || code != api.ErrEntry {
			t.Errorf("ParseWho of %q: %s %d", whole, short(got), code)
		}
		if got, code := match.Parse(s, table, who); !same(got, api.Entry{}) || code != api.ErrEntry {
			t.Errorf("Parse of %q: %s %d", who, short(got), code)
		}
		// Who an entry is has no call, whatever call it has.
		e.Call = api.Call{Action: "x", Args: ns(1)}
		if text, code := match.WhoText(s, table, e); text != who || code != api.OK {
			t.Errorf("WhoText: %q %d; want %q", text, code, who)
		}
	}
}

// TestLong: ErrLong comes ahead of all else, but not at the limit.
func TestLong(t *testing.T) {
	unsound := small()
	unsound.Tables[0].Size = 0
	at, beyond := strings.Repeat("0", api.MaxText), strings.Repeat("0", api.MaxText+1)
	noText(t, small(), "t", at, api.ErrEntry)
	noText(t, small(), "v", at, api.ErrTable)
	noText(t, unsound, "t", at, api.ErrSchema)
	for _, text := range []string{beyond, beyond + beyond, "0x1, 0x1200/8 -> g()" + beyond} {
		noText(t, small(), "t", text, api.ErrLong)
		noText(t, small(), "v", text, api.ErrLong)
		noText(t, unsound, "t", text, api.ErrLong)
	}
	// Great texts that begin like an entry's.
	for _, text := range []string{
		"0x1, 0x1200/8 -> " + strings.Repeat("g", 60000) + "()", "0x" + strings.Repeat("f", 60000) + ", 0x0/0 -> g()",
		strings.Repeat("0x1, ", 13000), strings.Repeat("0x1, 0x1200/8 -> g()", 3000), "0x1, 0x1200/" + strings.Repeat("8", 60000) + " -> g()", strings.Repeat("(", 60000), strings.Repeat(" -> ", 16000),
	} {
		noText(t, small(), "t", text, api.ErrEntry)
	}
	noText(t, small(), "", "0x1, 0x1200/8 -> g()", api.ErrTable)
	noText(t, unsound, "u", "0x2&0x3, 0x5..0x9 @ 7 -> g()", api.ErrSchema)
	noText(t, unsound, "v", "", api.ErrSchema)
}

// turnText changes a text by one byte, or cuts it, or doubles a piece of it.
func turnText(r *rand.Rand, text string) string {
	const signs = "0123456789abcdefx, /&.@->()gG \x00"
	sign := string(signs[r.Intn(len(signs))])
	i := r.Intn(len(text) + 1)
	k := i + r.Intn(len(text)-i+1)
	switch r.Intn(6) {
	case 0:
		return text[:i] + sign + text[i:]
	case 1:
		return text[:i] + text[k:]
	case 2:
		return text[:i] + text[i:k] + text[i:k] + text[k:]
	case 3:
		return text[:i]
	}
	if i == len(text) {
		return text + sign
	}
	if r.Intn(3) == 0 {
		return text[:i] + text[i+1:]
	}
	return text[:i] + sign + text[i+1:]
}

// TestDrawnTexts: a drawn entry's texts are the model's; what is read of a text that was changed is the model's.
func TestDrawnTexts(t *testing.T) {
	r := rand.New(rand.NewSource(6))
	taken, refused := 0, 0
	for range 1500 {
		s := drawSound(r)
		table := s.Tables[r.Intn(len(s.Tables))].Name
		e := drawEntry(r, s, table)
		who, whole := modelWhoText(s, table, e), modelText(s, table, e)
		checkTexts(t, s, table, e, who, whole)
		for range 5 {
			text := turnText(r, whole)
			wantE := api.OK
			want, ok := modelParse(s, table, text)
			if !ok {
				wantE = api.ErrEntry
			}
			if got, code := match.Parse(s, table, text); !same(got, want) || code != wantE {
				t.Errorf("Parse of %q: %s %d; want %s %d", text, short(got), code, short(want), wantE)
			}
			if ok {
				taken++
				if again, code := match.Text(s, table, want); again != text || code != api.OK {
					t.Errorf("Text behind Parse: %q; want %q", again, text)
				}
			} else {
				refused++
			}
			text = turnText(r, who)
			wantE = api.OK
			want, ok = modelParseWho(s, table, text)
			if !ok {
				wantE = api.ErrEntry
			}
			if got, code := match.ParseWho(s, table, text); !same(got, want) || code != wantE {
				t.Errorf("ParseWho of %q: %s %d; want %s %d", text, short(got), code, short(want), wantE)
			}
		}
		if t.Failed() {
			t.Fatalf("%s", short(s))
		}
	}
	if taken < 500 || refused < 2500 {
		t.Errorf("%d taken, %d refused", taken, refused)
	}
}

// TestEachTextOnce: of all entries of small tables no two have one text, and each is read.
func TestEachTextOnce(t *testing.T) {
	for _, parts := range [][]kindred{{{api.Exact, 3}, {api.Prefix, 3}}, {{api.Ternary, 2}, {api.Range, 2}, {api.Exact, 1}}} {
		s := keyed(parts...)
		met := map[string]int{}
		for i, e := range entries(rank(s), parts) {
			checkTexts(t, s, "t", e, modelWhoText(s, "t", e), modelText(s, "t", e))
			text, _ := match.WhoText(s, "t", e)
			if k, ok := met[text]; ok {
				t.Errorf("%q of %d and %d", text, k, i)
			}
			met[text] = i
		}
	}
}
