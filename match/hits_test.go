package match_test

import (
	"fmt"
	"math/rand"
	"testing"

	"turnout/api"
	"turnout/match"
)

// P11.3

// checkHits holds whether an entry hits a key against what it must be; so is what Best tells of it alone.
func checkHits(t *testing.T, what string, s api.Schema, table string, e api.Entry, key []api.Bits, want bool) {
	t.Helper()
	if got := match.Hits(s, table, e, key); got != want {
		t.Errorf("%s: %v hits %v: %v", what, e.Match, key, got)
	}
	best := -1
	if want {
		best = 0
	}
	if got := match.Best(s, table, []api.Entry{e}, key); got != best {
		t.Errorf("%s: Best of %v alone for %v: %d", what, e.Match, key, got)
	}
}

// candidates are all matches of small numbers, up to beyond a width.
func candidates(width int) []api.Match {
	var list []api.Match
	for a := range uint64(1) << (width + 1) {
		for mask := range uint64(1) << (width + 1) {
			for bits := -1; bits <= width+1; bits++ {
				list = append(list, api.Match{Value: n(a), Mask: n(mask), Len: bits})
			}
		}
	}
	return list
}

// possible are all matches that may be in a part of a small width.
func possible(kind, width int) []api.Match {
	var list []api.Match
	for _, m := range candidates(width) {
		if modelMay(kind, width, m) {
			list = append(list, m)
		}
	}
	return list
}

// TestAllOfSmallWidths: which of all matches may be, and what each hits, by the words themselves.
func TestAllOfSmallWidths(t *testing.T) {
	for width := 1; width <= 3; width++ {
		for _, kind := range kinds {
			s := keyed(kindred{kind, width})
			may := 0
			for _, m := range candidates(width) {
				e := entry(rank(s), call("g"), m)
				want := modelMay(kind, width, m)
				if got := match.Who(s, "t", e) == api.OK; got != want {
					t.Errorf("kind %d, width %d: %v: %v", kind, width, m, got)
				}
				if !want {
					continue
				}
				may++
				for a := range uint64(1) << width {
					hit := map[int]bool{
						api.Exact:   a == m.Value.Lo,
						api.Prefix:  a>>(width-m.Len) == m.Value.Lo>>(width-m.Len),
						api.Ternary: a&m.Mask.Lo == m.Value.Lo&m.Mask.Lo,
						api.Range:   a >= m.Value.Lo && a <= m.Mask.Lo,
					}[kind]
					if modelHit(kind, width, m, n(a)) != hit {
						t.Fatalf("the model: kind %d, width %d: %v, %d", kind, width, m, a)
					}
					checkHits(t, fmt.Sprint(kind, width), s, "t", e, ns(a), hit)
				}
			}
			// How many there are: 2^w; 1 + 2 + .. + 2^w; 3^w; 1 + 2 + .. + 2^w numbers.
			all, trits := 1<<width, 1
			for range width {
				trits *= 3
			}
			if want := map[int]int{api.Exact: all, api.Prefix: 2*all - 1, api.Ternary: trits, api.Range: all * (all + 1) / 2}[kind]; may != want {
				t.Errorf("kind %d, width %d: %d may be; want %d", kind, width, may, want)
			}
		}
	}
}

// TestHitsOfWideParts: beyond 64 bits.
func TestHitsOfWideParts(t *testing.T) {
	high := api.Bits{Hi: 1 << 63}
	for _, x := range []struct {
		kind, width int
		m           api.Match
		a           api.Bits
		want        bool
	}{
		{api.Exact, 128, api.Match{Value: high}, high, true},
		{api.Exact, 128, api.Match{Value: high}, api.Bits{Hi: 1 << 62}, false},
		{api.Exact, 128, api.Match{Value: high}, api.Bits{Hi: 1 << 63, Lo: 1}, false},
		{api.Exact, 128, api.Match{Value: n(7)}, api.Bits{Hi: 1, Lo: 7}, false},
		{api.Prefix, 128, api.Match{Value: high, Len: 1}, most, true},
		{api.Prefix, 128, api.Match{Value: high, Len: 1}, api.Bits{Hi: 1<<63 - 1}, false},
		{api.Prefix, 128, api.Match{}, most, true},
		{api.Prefix, 128, api.Match{Value: most, Len: 128}, most, true},
		{api.Prefix, 128, api.Match{Value: most, Len: 128}, api.Bits{Hi: most.Hi, Lo: most.Lo - 1}, false},
		{api.Prefix, 128, api.Match{Value: api.Bits{Hi: 5}, Len: 64}, api.Bits{Hi: 5, Lo: most.Lo}, true},
		{api.Prefix, 128, api.Match{Value: api.Bits{Hi: 5}, Len: 64}, api.Bits{Hi: 4, Lo: most.Lo}, false},
		{api.Prefix, 65, api.Match{Value: api.Bits{Hi: 1}, Len: 1}, api.Bits{Hi: 1, Lo: 9}, true},
		{api.Prefix, 65, api.Match{Value: api.Bits{Hi: 1}, Len: 1}, n(9), false},
		{api.Prefix, 65, api.Match{Value: api.Bits{Hi: 1, Lo: 8}, Len: 65}, api.Bits{Hi: 1, Lo: 9}, false},
		{api.Ternary, 128, api.Match{Value: high, Mask: high}, most, true},
		{api.Ternary, 128, api.Match{Value: high, Mask: high}, api.Bits{Hi: 1<<63 - 1, Lo: most.Lo}, false},
		{api.Ternary, 128, api.Match{Value: n(1), Mask: api.Bits{Hi: 1, Lo: 1}}, api.Bits{Hi: 2, Lo: 3}, true},
		{api.Ternary, 128, api.Match{Value: n(1), Mask: api.Bits{Hi: 1, Lo: 1}}, api.Bits{Hi: 3, Lo: 3}, false},
		{api.Range, 128, api.Match{Value: n(most.Lo), Mask: api.Bits{Hi: 1}}, api.Bits{Hi: 1}, true},
		{api.Range, 128, api.Match{Value: n(most.Lo), Mask: api.Bits{Hi: 1}}, n(most.Lo), true},
		{api.Range, 128, api.Match{Value: n(most.Lo), Mask: api.Bits{Hi: 1}}, api.Bits{Hi: 1, Lo: 1}, false},
		{api.Range, 128, api.Match{Value: n(most.Lo), Mask: api.Bits{Hi: 1}}, n(most.Lo - 1), false},
		{api.Range, 128, api.Match{Mask: most}, most, true},
	} {
		s := keyed(kindred{x.kind, x.width})
		checkHits(t, fmt.Sprint(x.kind, x.width), s, "t", entry(rank(s), call("g"), x.m), []api.Bits{x.a}, x.want)
	}
}

// TestEachPartCounts: an entry hits just if each match does.
func TestEachPartCounts(t *testing.T) {
	s := keyed(kindred{api.Exact, 8}, kindred{api.Ternary, 8}, kindred{api.Range, 8}, kindred{api.Range, 4})
	e := entry(1, call("g"), exactly(7), masked(1, 3), between(5, 9), between(0, 14))
	checkHits(t, "all", s, "t", e, ns(7, 5, 9, 0), true)
	for i, key := range [][]api.Bits{ns(6, 5, 9, 0), ns(7, 6, 9, 0), ns(7, 5, 10, 0), ns(7, 5, 9, 15)} {
		checkHits(t, fmt.Sprint("but ", i), s, "t", e, key, false)
	}
}

// TestNoKey: what is no key of the table is never hit, and so is none by what may not be, or where nothing is.
func TestNoKey(t *testing.T) {
	s := small()
	all := entry(1, call("g"), masked(0, 0), between(0, 0xffff))
	checkHits(t, "a key", s, "u", all, ns(255, 65535), true)
	for _, key := range [][]api.Bits{nil, {}, ns(1), ns(1, 2, 3), ns(256, 1), ns(1, 65536), {{Hi: 1}, n(1)}, {n(1), {Hi: 1}}, {n(1), most}, make([]api.Bits, 1<<16)} {
		checkHits(t, "no key", s, "u", all, key, false)
	}
	none := entry(0, call("g"), exactly(0), begins(0, 0))
	checkHits(t, "a key", s, "t", none, ns(0, 65535), true)
	for _, key := range [][]api.Bits{nil, ns(0), ns(0, 0, 0), ns(0, 65536), ns(256, 0), {{Hi: 1}, n(0)}, {n(0), {Hi: 1}}} {
		checkHits(t, "no key", s, "t", none, key, false)
	}
	for _, e := range []api.Entry{
		{},
		entry(1, call("g"), masked(0, 0)),
		entry(1, call("g"), masked(0, 0), between(0, 0xffff), api.Match{}),
		entry(0, call("g"), all.Match...),
		entry(api.MaxPriority+1, call("g"), all.Match...),
		entry(1, call("g"), masked(0, 256), between(0, 0xffff)),
		entry(1, call("g"), masked(1, 0), between(0, 0xffff)),
		entry(1, call("g"), masked(0, 0), between(0, 0x10000)),
		entry(1, call("g"), api.Match{Len: 1}, between(0, 0xffff)),
	} {
		checkHits(t, "who may not be", s, "u", e, ns(1, 2), false)
	}
	// The call is not looked at.
	checkHits(t, "no call", s, "u", entry(1, api.Call{Action: "x", Args: ns(1)}, all.Match...), ns(1, 2), true)
	checkHits(t, "no table", s, "v", all, ns(1, 2), false)
	s.Tables[0].Size = 0
	checkHits(t, "not sound", s, "u", all, ns(1, 2), false)
}

// TestBest: the first in the order of those that hit, of the same ones the first in the list.
func TestBest(t *testing.T) {
	s := small()
	g := call("g")
	in := func(a, b uint64, bits int) api.Entry { return entry(0, g, exactly(a), begins(b, bits)) }
	routes := []api.Entry{in(1, 0, 0), in(1, 0x1200, 8), in(1, 0x1230, 12), in(2, 0x1234, 16), in(1, 0x1200, 8), in(1, 0x1200, 7)}
	rules := []api.Entry{
		entry(1, g, masked(0, 0), between(0, 9)),
		entry(2, g, masked(0, 1), between(0, 9)),
		entry(2, g, masked(0, 0), between(3, 9)),
		entry(2, g, masked(0, 0), between(3, 8)),
		entry(9, g, masked(1, 1), between(20, 20)),
		entry(9, call("f"), masked(1, 1), between(20, 20)),
		entry(99, g, masked(1, 0), between(0, 0xffff)), // may not be
		entry(0, g, masked(0, 0), between(0, 0xffff)),  // nor this one
		entry(99, g, masked(0, 0)),                     // nor this one
	}
	for _, x := range []struct {
		table string
		l     []api.Entry
		key   []api.Bits
		want  int
	}{
		{"t", routes, ns(1, 0x1234), 2},
		{"t", routes, ns(1, 0x12ff), 1},
		{"t", routes, ns(1, 0x13ff), 5},
		{"t", routes, ns(1, 0x2000), 0},
		{"t", routes, ns(2, 0x1234), 3},
		{"t", routes, ns(2, 0x1235), -1},
		{"t", routes, ns(3, 0), -1},
		{"t", nil, ns(1, 1), -1},
		{"t", routes, ns(1), -1},
		{"t", routes, ns(1, 0x10000), -1},
		{"v", routes, ns(1, 0x1234), -1},
		{"u", rules, ns(2, 4), 3},
		{"u", rules, ns(2, 9), 2},
		{"u", rules, ns(2, 2), 1},
		{"u", rules, ns(1, 2), 0},
		{"u", rules, ns(1, 20), 4},
		{"u", rules, ns(1, 30), -1},
	} {
		if got := match.Best(s, x.table, x.l, x.key); got != x.want {
			t.Errorf("%s %v: %d; want %d", x.table, x.key, got, x.want)
		}
	}
	s.Actions[0].Name = "X"
	if got := match.Best(s, "u", rules, ns(2, 4)); got != -1 {
		t.Errorf("not sound: %d", got)
	}
}

// TestDrawnBest: whom a drawn list answers with is the model's; of a table of the kind Prefix it has the greatest Len.
func TestDrawnBest(t *testing.T) {
	r := rand.New(rand.NewSource(3))
	met := map[string]int{}
	for range 2500 {
		s := drawSound(r)
		table := s.Tables[r.Intn(len(s.Tables))]
		l := drawList(r, s, table.Name)
		for range 4 {
			key := drawKey(r, s, table.Name, l)
			want := modelBest(s, table.Name, l, key)
			if got := match.Best(s, table.Name, l, key); got != want {
				t.Fatalf("%d; want %d: %v of %s in %s", got, want, key, short(l), short(s))
			}
			for _, e := range l {
				if got, want := match.Hits(s, table.Name, e, key), modelHits(s, table.Name, e, key); got != want {
					t.Fatalf("%v: %v hits %v in %s", got, e, key, short(s))
				}
			}
			met[fmt.Sprint(want >= 0)]++
			if want < 0 {
				continue
			}
			hits, longest := 0, -1
			for _, e := range l {
				if modelHits(s, table.Name, e, key) {
					hits++
					for _, m := range e.Match {
						longest = max(longest, m.Len)
					}
				}
			}
			met[fmt.Sprint("of ", min(hits, 3))]++
			for i, k := range table.Keys {
				if k.Kind == api.Prefix && l[want].Match[i].Len != longest {
					t.Fatalf("the Len %d, not %d", l[want].Match[i].Len, longest)
				}
			}
		}
	}
	for what, least := range map[string]int{"true": 2000, "false": 2000, "of 1": 500, "of 2": 500, "of 3": 500} {
		if met[what] < least {
			t.Errorf("%s was met %d times", what, met[what])
		}
	}
}
