package match_test

import (
	"fmt"
	"math/rand"
	"testing"

	"turnout/api"
	"turnout/match"
)

// P11.4, P11.7

// checkBoth holds what two entries have to do with one another against what it must be.
func checkBoth(t *testing.T, what string, s api.Schema, table string, a, b api.Entry, covers, meet bool) {
	t.Helper()
	if got := match.Covers(s, table, a, b); got != covers {
		t.Errorf("%s: %v covers %v: %v", what, a.Match, b.Match, got)
	}
	if got, back := match.Meet(s, table, a, b), match.Meet(s, table, b, a); got != meet || back != meet {
		t.Errorf("%s: %v meets %v: %v, %v", what, a.Match, b.Match, got, back)
	}
}

// keys are all keys of parts of small widths.
func keys(parts []kindred) [][]api.Bits {
	list := [][]api.Bits{nil}
	for _, p := range parts {
		var longer [][]api.Bits
		for _, key := range list {
			for a := range uint64(1) << p.width {
				longer = append(longer, append(key[:len(key):len(key)], n(a)))
			}
		}
		list = longer
	}
	return list
}

// entries are all that may be of parts of small widths.
func entries(priority int, parts []kindred) []api.Entry {
	list := []api.Entry{entry(priority, call("g"))}
	for _, p := range parts {
		var longer []api.Entry
		for _, e := range list {
			for _, m := range possible(p.kind, p.width) {
				longer = append(longer, entry(priority, call("g"), append(e.Match[:len(e.Match):len(e.Match)], m)...))
			}
		}
		list = longer
	}
	return list
}

// TestBothOfSmallWidths: of all pairs of entries, by all keys that there are.
func TestBothOfSmallWidths(t *testing.T) {
	for _, parts := range [][]kindred{
		{{api.Exact, 1}}, {{api.Exact, 3}}, {{api.Prefix, 1}}, {{api.Prefix, 3}},
		{{api.Ternary, 1}}, {{api.Ternary, 3}}, {{api.Range, 1}}, {{api.Range, 3}},
		{{api.Exact, 2}, {api.Prefix, 2}}, {{api.Prefix, 2}, {api.Exact, 1}, {api.Exact, 1}},
		{{api.Ternary, 2}, {api.Range, 2}}, {{api.Exact, 1}, {api.Range, 2}, {api.Ternary, 1}},
	} {
		s := keyed(parts...)
		all := keys(parts)
		list := entries(rank(s), parts)
		hits := make([]uint64, len(list)) // a bit for each key
		for i, e := range list {
			for k, key := range all {
				if match.Hits(s, "t", e, key) {
					hits[i] |= 1 << k
				}
			}
			if hits[i] == 0 {
				t.Errorf("%v hits nothing", e.Match)
			}
		}
		for i, a := range list {
			for k, b := range list {
				checkBoth(t, fmt.Sprint(parts), s, "t", a, b, hits[i]&hits[k] == hits[k], hits[i]&hits[k] != 0)
			}
		}
		if t.Failed() {
			t.FailNow()
		}
	}
}

// TestBothOfWideParts: beyond 64 bits.
func TestBothOfWideParts(t *testing.T) {
	high, low := api.Bits{Hi: 1 << 63}, n(1)
	for _, x := range []struct {
		kind         int
		a, b         api.Match
		covers, meet bool
	}{
		{api.Exact, api.Match{Value: high}, api.Match{Value: high}, true, true},
		{api.Exact, api.Match{Value: high}, api.Match{Value: low}, false, false},
		{api.Exact, api.Match{Value: low}, api.Match{Value: api.Bits{Hi: 1, Lo: 1}}, false, false},
		{api.Prefix, api.Match{}, api.Match{Value: most, Len: 128}, true, true},
		{api.Prefix, api.Match{Value: most, Len: 128}, api.Match{}, false, true},
		{api.Prefix, api.Match{Value: high, Len: 1}, api.Match{Value: high, Len: 65}, true, true},
		{api.Prefix, api.Match{Value: high, Len: 65}, api.Match{Value: high, Len: 66}, true, true},
		{api.Prefix, api.Match{Value: high, Len: 66}, api.Match{Value: high, Len: 65}, false, true},
		{api.Prefix, api.Match{Value: high, Len: 1}, api.Match{Value: low, Len: 128}, false, false},
		{api.Prefix, api.Match{Value: low, Len: 128}, api.Match{Len: 127}, false, true},
		{api.Prefix, api.Match{Value: low, Len: 128}, api.Match{Len: 128}, false, false},
		{api.Ternary, api.Match{}, api.Match{Value: most, Mask: most}, true, true},
		{api.Ternary, api.Match{Value: high, Mask: high}, api.Match{Value: low, Mask: low}, false, true},
		{api.Ternary, api.Match{Value: high, Mask: high}, api.Match{Mask: api.Bits{Hi: 1 << 63, Lo: 1}}, false, false},
		{api.Ternary, api.Match{Value: high, Mask: high}, api.Match{Value: high, Mask: most}, true, true},
		{api.Ternary, api.Match{Value: high, Mask: most}, api.Match{Value: high, Mask: high}, false, true},
		{api.Ternary, api.Match{Mask: low}, api.Match{Value: low, Mask: low}, false, false},
		{api.Range, api.Match{Mask: most}, api.Match{Value: high, Mask: high}, true, true},
		{api.Range, api.Match{Mask: n(^uint64(0))}, api.Match{Value: api.Bits{Hi: 1}, Mask: most}, false, false},
		{api.Range, api.Match{Mask: api.Bits{Hi: 1}}, api.Match{Value: api.Bits{Hi: 1}, Mask: most}, false, true},
		{api.Range, api.Match{Value: low, Mask: most}, api.Match{Mask: most}, false, true},
		{api.Range, api.Match{Value: low, Mask: high}, api.Match{Value: low, Mask: high}, true, true},
	} {
		s := keyed(kindred{x.kind, 128})
		checkBoth(t, fmt.Sprint(x.kind), s, "t", entry(rank(s), call("g"), x.a), entry(rank(s), call("g"), x.b), x.covers, x.meet)
	}
}

// TestBothOfNothing: neither holds, if one of the two may not be, there is no such table, or the schema is not sound; calls and priorities don't count.
func TestBothOfNothing(t *testing.T) {
	s := small()
	good := inU()
	checkBoth(t, "itself", s, "u", good, good, true, true)
	checkBoth(t, "another priority", s, "u", good, entry(api.MaxPriority, call("g"), good.Match...), true, true)
	checkBoth(t, "another call", s, "u", entry(1, api.Call{Action: "x", Args: ns(1)}, good.Match...), good, true, true)
	for _, bad := range []api.Entry{
		{},
		entry(0, call("g"), good.Match...),
		entry(api.MaxPriority+1, call("g"), good.Match...),
		entry(7, call("g"), good.Match[0]),
		entry(7, call("g"), good.Match[0], good.Match[1], good.Match[1]),
		entry(7, call("g"), masked(2, 256|2), good.Match[1]),
		entry(7, call("g"), masked(3, 2), good.Match[1]),
		entry(7, call("g"), good.Match[0], between(9, 5)),
		entry(7, call("g"), good.Match[0], api.Match{Value: n(5), Mask: n(9), Len: 16}),
	} {
		checkBoth(t, "not right", s, "u", bad, good, false, false)
		checkBoth(t, "not right", s, "u", good, bad, false, false)
		checkBoth(t, "not right", s, "u", bad, bad, false, false)
	}
	checkBoth(t, "no table", s, "v", good, good, false, false)
	s.Headers[0].Fields[0].Width = 7
	checkBoth(t, "not sound", s, "u", good, good, false, false)
}

// narrowed is an entry with one match less free: what it hits is a part of what it hit.
func narrowed(d *drawer, s api.Schema, table string, e api.Entry) api.Entry {
	out := deepCopy(e)
	t, widths := modelTable(s, table)
	for i, k := range t.Keys {
		if d.Intn(2) == 0 {
			continue
		}
		m, width := &out.Match[i], widths[i]
		a := inside(d, k.Kind, width, e, i)
		switch k.Kind {
		case api.Prefix:
			m.Len += d.Intn(width - m.Len + 1)
			behind := modelCut(most, width-m.Len)
			m.Value = api.Bits{Hi: a.Hi &^ behind.Hi, Lo: a.Lo &^ behind.Lo}
		case api.Ternary:
			more := d.value(width)
			m.Mask = api.Bits{Hi: m.Mask.Hi | more.Hi, Lo: m.Mask.Lo | more.Lo}
			m.Value = api.Bits{Hi: a.Hi & m.Mask.Hi, Lo: a.Lo & m.Mask.Lo}
		case api.Range:
			m.Value = a
		}
	}
	return out
}

// TestDrawnBoth: it is the model's of any two drawn entries, and of one and a narrower one.
func TestDrawnBoth(t *testing.T) {
	r := rand.New(rand.NewSource(4))
	met := map[string]int{}
	for range 4000 {
		s := drawSound(r)
		d := &drawer{Rand: r, s: s}
		table := s.Tables[r.Intn(len(s.Tables))].Name
		a := drawEntry(r, s, table)
		narrow := narrowed(d, s, table, a)
		b := narrowed(d, s, table, a)
		if r.Intn(4) == 0 {
			b = drawEntry(r, s, table)
		}
		if r.Intn(20) == 0 {
			turn(r, &b)
		}
		if !match.Covers(s, table, a, narrow) || !match.Meet(s, table, a, narrow) {
			t.Fatalf("%v does not cover %v in %s", a.Match, narrow.Match, short(s))
		}
		for _, two := range [][2]api.Entry{{a, b}, {b, a}, {narrow, b}, {narrow, a}} {
			covers, meet := modelBoth(s, table, two[0], two[1], modelCover), modelBoth(s, table, two[0], two[1], modelMeet)
			checkBoth(t, "drawn", s, table, two[0], two[1], covers, meet)
			met[fmt.Sprint(covers, meet)]++
			checkKeys(t, d, s, table, two[0], two[1])
		}
		if t.Failed() {
			t.Fatalf("%s", short(s))
		}
	}
	if met["true true"] < 1000 || met["false true"] < 1000 || met["false false"] < 1000 {
		t.Errorf("met: %v", met)
	}
}

// checkKeys: a key that one hits and another one does not tells that it is not covered; one that both hit, that they meet.
func checkKeys(t *testing.T, d *drawer, s api.Schema, table string, a, b api.Entry) {
	t.Helper()
	key := drawKey(d.Rand, s, table, []api.Entry{b})
	one, other := match.Hits(s, table, a, key), match.Hits(s, table, b, key)
	if other && !one && match.Covers(s, table, a, b) {
		t.Errorf("%v: %v covers %v", key, a.Match, b.Match)
	}
	if other && one && !match.Meet(s, table, a, b) {
		t.Errorf("%v: %v does not meet %v", key, a.Match, b.Match)
	}
}

// TestCoversOfWhat: each entry covers itself and meets whom it covers; who covers one that covers a third covers this.
func TestCoversOfWhat(t *testing.T) {
	r := rand.New(rand.NewSource(5))
	for range 4000 {
		s := drawSound(r)
		d := &drawer{Rand: r, s: s}
		table := s.Tables[0].Name
		a := drawEntry(r, s, table)
		b := narrowed(d, s, table, a)
		c := narrowed(d, s, table, b)
		for _, e := range []api.Entry{a, b, c} {
			checkBoth(t, "itself", s, table, e, e, true, true)
		}
		checkBoth(t, "over two", s, table, a, c, true, true)
		both := match.Covers(s, table, b, a) && match.Covers(s, table, a, b)
		// Two that cover one another have the same matches: there is one form of each.
		if alike := match.Same(api.Entry{Match: a.Match}, api.Entry{Match: b.Match}); both != alike {
			t.Errorf("%v, %v: cover one another: %v", a.Match, b.Match, both)
		}
		if t.Failed() {
			t.Fatalf("%s", short(s))
		}
	}
}
