package trie_test

import (
	"testing"

	"turnout/api"
	"turnout/trie"
)

// TestExamples: the chapter's table, line by line.
func TestExamples(t *testing.T) {
	for _, n := range [][2]int{{0, 1}, {129, 1}, {8, 0}, {8, 4097}} {
		if x, e := trie.New[string](n[0], n[1]); x != nil || e != api.ErrArg {
			t.Errorf("New(%d, %d): %v %d", n[0], n[1], x, e)
		}
	}
	x := fresh[string](t, 8, 4096)
	p := func(bits string) trie.Prefix { return of(bits, 8) }
	a := func(bits string) api.Bits { return number(bits, 8) }

	checkPut(t, x, p("1"), "a", api.OK)
	checkPut(t, x, p("1011"), "b", api.OK)
	checkPut(t, x, p("1000"), "c", api.OK)
	checkMany(t, x, 3, 4)

	checkPut(t, x, p("1"), "x", api.ErrDup)
	checkPut(t, x, trie.Prefix{Value: a("11000000"), Len: 1}, "x", api.ErrKey)
	checkPut(t, x, trie.Prefix{Value: api.Bits{Lo: 256}, Len: 8}, "x", api.ErrKey)

	checkFind(t, x, a("10110001"), p("1011"), "b", true)
	checkFind(t, x, a("10010001"), p("1"), "a", true)
	checkFind(t, x, a("00000001"), trie.Prefix{}, "", false)

	if l := x.Every(a("10110001")); len(l) != 2 || l[0] != p("1") || l[1] != p("1011") {
		t.Error(l)
	}
	if l := x.Every(api.Bits{Lo: 256}); len(l) != 0 {
		t.Error(l)
	}

	said := ""
	for p, v := range x.All() {
		said += written(t, p, 8) + "* " + v + ", "
	}
	if said != "1* a, 1000* c, 1011* b, " {
		t.Error(said)
	}
	said = ""
	for p, v := range x.Under(p("10")) {
		said += written(t, p, 8) + "* " + v + ", "
	}
	if said != "1000* c, 1011* b, " {
		t.Error(said)
	}

	checkDrop(t, x, p("1000"), "c", true)
	checkMany(t, x, 2, 2)
	checkDrop(t, x, p("1000"), "", false)

	checkPut(t, x, p(""), "d", api.OK)
	checkFind(t, x, a("00000001"), p(""), "d", true)
	checkGet(t, x, p(""), "d", true)
	checkGet(t, x, p("0"), "", false)

	checkSet(t, x, p("1"), "e", api.OK)
	checkSet(t, x, p("11"), "e", api.ErrAbsent)
	checkFind(t, x, a("11111111"), p("1"), "e", true)
}
