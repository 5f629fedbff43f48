package match_test

import (
	"testing"

	"turnout/api"
	"turnout/match"
)

// TestExamples: the chapter's. P11.1, P11.3 to P11.6
func TestExamples(t *testing.T) {
	s := small()
	sound(t, "small", s)
	sound(t, "whole", whole())
	for _, x := range []struct {
		table string
		e     api.Entry
		want  api.Errno
	}{
		{"t", inT(), api.OK},
		{"t", entry(0, call("f", 0x100), exactly(1), begins(0x1234, 8)), api.ErrKey},
		{"t", entry(0, call("f", 0x100), exactly(0x100), begins(0x1200, 8)), api.ErrKey},
		{"t", entry(1, call("f", 0x100), exactly(1), begins(0x1200, 8)), api.ErrPriority},
		{"u", inU(), api.OK},
		{"u", entry(7, call("g"), masked(4, 3), between(5, 9)), api.ErrKey},
		{"u", entry(7, call("g"), masked(2, 3), between(9, 5)), api.ErrKey},
		{"u", entry(0, call("g"), masked(2, 3), between(5, 9)), api.ErrPriority},
	} {
		checkRight(t, short(x.e), s, x.table, x.e, x.want, x.want)
	}
	checkTexts(t, s, "t", inT(), "0x1, 0x1200/8", "0x1, 0x1200/8 -> f(0x100)")
	checkTexts(t, s, "u", inU(), "0x2&0x3, 0x5..0x9 @ 7", "0x2&0x3, 0x5..0x9 @ 7 -> g()")
	checkBytes(t, s, "t", inT(), "\x01\x12\x00\x08", "\x01\x12\x00\x08\x00\x01\x00")
	checkBytes(t, s, "u", inU(), "\x02\x03\x00\x05\x00\x09\x00\x00\x00\x07", "\x02\x03\x00\x05\x00\x09\x00\x00\x00\x07\x00")
	for _, x := range []struct {
		a, b uint64
		want bool
	}{{6, 9, true}, {6, 10, false}, {7, 5, false}} {
		if got := match.Hits(s, "u", inU(), ns(x.a, x.b)); got != x.want {
			t.Errorf("Hits %x, %x: %v", x.a, x.b, got)
		}
	}
	wide := entry(1, call("g"), masked(2, 2), between(0, 0xff))
	if !match.Covers(s, "u", wide, inU()) || match.Covers(s, "u", inU(), wide) {
		t.Error("Covers")
	}
	one, other := entry(1, call("g"), masked(1, 1), between(5, 9)), entry(1, call("g"), masked(2, 2), between(9, 16))
	if !match.Meet(s, "u", one, other) {
		t.Error("Meet")
	}
	other.Match[0] = masked(0, 1)
	if match.Meet(s, "u", one, other) {
		t.Error("Meet, with 0x0&0x1")
	}
	noText(t, s, "t", "0x1, 0x1200/8 -> f(256)", api.ErrEntry)
	noText(t, s, "t", "0x01, 0x1200/8 -> f(0x100)", api.ErrEntry)
	sizes(t, s, "t", 4, 7)
	sizes(t, s, "u", 10, 11)
}

// sizes holds a table's sizes against what they must be.
func sizes(t *testing.T, s api.Schema, table string, who, whole int) {
	t.Helper()
	if got := match.WhoSize(s, table); got != who {
		t.Errorf("%s: WhoSize: %d; want %d", table, got, who)
	}
	if got := match.Size(s, table); got != whole {
		t.Errorf("%s: Size: %d; want %d", table, got, whole)
	}
}
