package trie_test

import (
	"iter"
	"slices"
	"testing"

	"turnout/api"
	"turnout/trie"
)

// told is a prefix, written as its bits, with what is kept under it.
type told struct {
	bits string
	v    int
}

// number is the value of which bits are the highest ones in a width, with noughts behind them.
func number(bits string, width int) api.Bits {
	var a api.Bits
	for i := range width {
		a = api.Bits{Hi: a.Hi<<1 | a.Lo>>63, Lo: a.Lo << 1}
		if i < len(bits) && bits[i] == '1' {
			a.Lo |= 1
		}
	}
	return a
}

// of is the prefix in a width that is written as its bits.
func of(bits string, width int) trie.Prefix {
	return trie.Prefix{Value: number(bits, width), Len: len(bits)}
}

// written are the bits of a prefix in a width; it must be one.
func written(t *testing.T, p trie.Prefix, width int) string {
	t.Helper()
	b := make([]byte, max(0, min(p.Len, width)))
	for i := range b {
		at, half := width-1-i, p.Value.Lo
		if at >= 64 {
			at, half = at-64, p.Value.Hi
		}
		b[i] = byte('0' + half>>at&1)
	}
	if of(string(b), width) != p {
		t.Fatalf("no prefix of the width %d: %v", width, p)
	}
	return string(b)
}

// fresh is a trie in which nothing is kept.
func fresh[V any](t *testing.T, width, most int) *trie.Trie[V] {
	t.Helper()
	x, e := trie.New[V](width, most)
	if x == nil || e != api.OK {
		t.Fatalf("New(%d, %d): %v %d", width, most, x, e)
	}
	return x
}

// filled is a trie of the width 8 that keeps something under each of these prefixes: its number in the list.
func filled(t *testing.T, list ...string) *trie.Trie[int] {
	t.Helper()
	x := fresh[int](t, 8, api.MaxCapacity)
	for i, bits := range list {
		checkPut(t, x, of(bits, 8), i, api.OK)
	}
	return x
}

func checkPut[V any](t *testing.T, x *trie.Trie[V], p trie.Prefix, v V, want api.Errno) {
	t.Helper()
	if e := x.Put(p, v); e != want {
		t.Errorf("Put(%v, %v) is %d, not %d", p, v, e, want)
	}
}

func checkSet[V any](t *testing.T, x *trie.Trie[V], p trie.Prefix, v V, want api.Errno) {
	t.Helper()
	if e := x.Set(p, v); e != want {
		t.Errorf("Set(%v, %v) is %d, not %d", p, v, e, want)
	}
}

func checkDrop[V comparable](t *testing.T, x *trie.Trie[V], p trie.Prefix, want V, there bool) {
	t.Helper()
	if v, is := x.Drop(p); v != want || is != there {
		t.Errorf("Drop(%v) is %v %v, not %v %v", p, v, is, want, there)
	}
}

func checkGet[V comparable](t *testing.T, x *trie.Trie[V], p trie.Prefix, want V, there bool) {
	t.Helper()
	if v, is := x.Get(p); v != want || is != there {
		t.Errorf("Get(%v) is %v %v, not %v %v", p, v, is, want, there)
	}
}

func checkFind[V comparable](t *testing.T, x *trie.Trie[V], a api.Bits, longest trie.Prefix, want V, there bool) {
	t.Helper()
	if p, v, is := x.Find(a); p != longest || v != want || is != there {
		t.Errorf("Find(%v) is %v %v %v, not %v %v %v", a, p, v, is, longest, want, there)
	}
}

// checkEvery: in the width 8.
func checkEvery(t *testing.T, x *trie.Trie[int], a api.Bits, want ...string) {
	t.Helper()
	var got []string
	for _, p := range x.Every(a) {
		got = append(got, written(t, p, 8))
	}
	if !slices.Equal(got, want) {
		t.Errorf("Every(%v) is %q, not %q", a, got, want)
	}
}

// checkMany: Len and Nodes.
func checkMany[V any](t *testing.T, x *trie.Trie[V], long, nodes int) {
	t.Helper()
	if x.Len() != long || x.Nodes() != nodes {
		t.Errorf("Len is %d, Nodes is %d, not %d and %d", x.Len(), x.Nodes(), long, nodes)
	}
}

// collected is what an iterator over a trie of a width tells.
func collected(t *testing.T, all iter.Seq2[trie.Prefix, int], width int) []told {
	t.Helper()
	if all == nil {
		t.Fatal("no iterator")
	}
	var list []told
	for p, v := range all {
		list = append(list, told{written(t, p, width), v})
	}
	return list
}

// checkTold: in the width 8.
func checkTold(t *testing.T, all iter.Seq2[trie.Prefix, int], want ...told) {
	t.Helper()
	if got := collected(t, all, 8); !slices.Equal(got, want) {
		t.Errorf("told is %v, not %v", some(got), some(want))
	}
}

// some is a list that is not too long for a message.
func some[T any](list []T) []T { return list[:min(len(list), 20)] }
