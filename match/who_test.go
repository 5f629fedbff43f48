package match_test

import (
	"fmt"
	"math"
	"math/big"
	"testing"

	"turnout/api"
	"turnout/match"
)

// P11.1

var kinds = []int{api.Exact, api.Prefix, api.Ternary, api.Range}

// TestMatches: which matches may be, in a width of 8.
func TestMatches(t *testing.T) {
	for _, x := range []struct {
		kind int
		m    api.Match
		ok   bool
	}{
		{api.Exact, api.Match{}, true},
		{api.Exact, exactly(255), true},
		{api.Exact, exactly(256), false},
		{api.Exact, api.Match{Value: api.Bits{Hi: 1}}, false},
		{api.Exact, api.Match{Value: n(3), Mask: n(3)}, false},
		{api.Exact, api.Match{Value: n(3), Mask: n(255)}, false},
		{api.Exact, api.Match{Value: n(3), Mask: api.Bits{Hi: 1}}, false},
		{api.Exact, api.Match{Value: n(3), Len: 8}, false},
		{api.Exact, api.Match{Value: n(3), Len: -1}, false},
		{api.Prefix, api.Match{}, true},
		{api.Prefix, begins(0x80, 1), true},
		{api.Prefix, begins(0x40, 1), false},
		{api.Prefix, begins(0x80, 0), false},
		{api.Prefix, begins(0x80, 8), true},
		{api.Prefix, begins(0xfe, 7), true},
		{api.Prefix, begins(0xff, 7), false},
		{api.Prefix, begins(0xff, 8), true},
		{api.Prefix, begins(0x100, 8), false},
		{api.Prefix, begins(0x100, 0), false},
		{api.Prefix, api.Match{Value: api.Bits{Hi: 1}, Len: 8}, false},
		{api.Prefix, begins(0, 9), false},
		{api.Prefix, begins(0, -1), false},
		{api.Prefix, begins(0, math.MaxInt), false},
		{api.Prefix, begins(0, math.MinInt), false},
		{api.Prefix, api.Match{Value: n(0x80), Mask: n(0x80), Len: 1}, false},
		{api.Prefix, api.Match{Value: n(0x80), Mask: api.Bits{Hi: 1}, Len: 1}, false},
		{api.Ternary, api.Match{}, true},
		{api.Ternary, masked(2, 3), true},
		{api.Ternary, masked(4, 3), false},
		{api.Ternary, masked(3, 2), false},
		{api.Ternary, masked(1, 0), false},
		{api.Ternary, masked(255, 255), true},
		{api.Ternary, masked(0, 256), false},
		{api.Ternary, masked(256, 256), false},
		{api.Ternary, masked(256, 255), false},
		{api.Ternary, api.Match{Mask: api.Bits{Hi: 1}}, false},
		{api.Ternary, api.Match{Value: n(2), Mask: n(3), Len: 1}, false},
		{api.Ternary, api.Match{Value: n(2), Mask: n(3), Len: -1}, false},
		{api.Range, api.Match{}, true},
		{api.Range, between(5, 9), true},
		{api.Range, between(9, 5), false},
		{api.Range, between(9, 9), true},
		{api.Range, between(10, 9), false},
		{api.Range, between(0, 255), true},
		{api.Range, between(255, 255), true},
		{api.Range, between(0, 256), false},
		{api.Range, between(256, 256), false},
		{api.Range, between(256, 255), false},
		{api.Range, api.Match{Mask: api.Bits{Hi: 1}}, false},
		{api.Range, api.Match{Value: api.Bits{Hi: 1}, Mask: n(255)}, false},
		{api.Range, api.Match{Value: n(5), Mask: n(9), Len: 1}, false},
		{api.Range, api.Match{Value: n(5), Mask: n(9), Len: -1}, false},
	} {
		s := keyed(kindred{x.kind, 8})
		want := api.ErrKey
		if x.ok {
			want = api.OK
		}
		checkRight(t, fmt.Sprint(x.kind, x.m), s, "t", entry(rank(s), call("g"), x.m), want, want)
	}
}

// around are values at the edges of a width: 0, 1, its highest bit, its greatest value, and beyond.
func around(width int) []api.Bits {
	power := new(big.Int).Lsh(big.NewInt(1), uint(width))
	half := new(big.Int).Rsh(power, 1)
	list := []api.Bits{{}, n(1), fromBig(half), fromBig(new(big.Int).Sub(power, big.NewInt(1))), fromBig(new(big.Int).Sub(power, big.NewInt(2))), fromBig(new(big.Int).Sub(half, big.NewInt(1))), most, {Hi: 1 << 63}, {Hi: 1}}
	if width < 128 {
		list = append(list, fromBig(power), fromBig(new(big.Int).Add(power, big.NewInt(1))))
	}
	return list
}

// TestMatchesOfWidths: at the edges of each width they are the model's.
func TestMatchesOfWidths(t *testing.T) {
	met := map[bool]int{}
	for width := 1; width <= 128; width++ {
		for _, kind := range kinds {
			s := keyed(kindred{kind, width})
			lens := []int{0, 1, 2, width - 1, width, width + 1, -1}
			if kind != api.Prefix {
				lens = []int{0, 0, 0, 0, width}
			}
			for i, a := range around(width) {
				for k, mask := range around(width) {
					if kind != api.Ternary && kind != api.Range && k > 1 {
						continue
					}
					m := api.Match{Value: a, Mask: mask, Len: lens[(i+k)%len(lens)]}
					for _, m.Len = range []int{m.Len, lens[i%len(lens)], lens[k%len(lens)]} {
						want := modelWho(s, "t", entry(rank(s), call("g"), m))
						met[want == api.OK]++
						if got := match.Who(s, "t", entry(rank(s), call("g"), m)); got != want {
							t.Errorf("kind %d, width %d: %v: %d; want %d", kind, width, m, got, want)
						}
					}
				}
			}
		}
	}
	if met[true] < 2000 || met[false] < 2000 {
		t.Errorf("met: %v", met)
	}
}

// TestEachLen: of each width, each Len may have the bits up to it, and none behind it.
func TestEachLen(t *testing.T) {
	for _, width := range []int{1, 2, 8, 63, 64, 65, 127, 128} {
		s := keyed(kindred{api.Prefix, width})
		for bits := -1; bits <= width+1; bits++ {
			ones := new(big.Int)
			for i := range width {
				if i < bits {
					ones.SetBit(ones, width-1-i, 1)
				}
			}
			want := api.ErrKey
			if bits >= 0 && bits <= width {
				want = api.OK
			}
			m := api.Match{Value: fromBig(ones), Len: bits}
			checkRight(t, fmt.Sprint(width, m), s, "t", entry(0, call("g"), m), want, want)
			if want == api.OK && bits < width {
				m.Value = fromBig(ones.SetBit(ones, width-1-bits, 1))
				checkRight(t, fmt.Sprint(width, m), s, "t", entry(0, call("g"), m), api.ErrKey, api.ErrKey)
			}
		}
	}
}

// TestHowMany: there is a match for each part, each looked at by the part's own kind and width.
func TestHowMany(t *testing.T) {
	s := whole()
	for table, good := range map[string]api.Entry{
		"route": entry(0, call("none"), begins(0x0a000000, 8), exactly(6)),
		"acl":   entry(1, call("out", 3), between(1, 511), masked(1, 3), exactly(1), between(0, 1)),
		"mac":   entry(0, call("none"), exactly(1<<47), api.Match{Value: most}, exactly(2)),
	} {
		checkRight(t, table, s, table, good, api.OK, api.OK)
		for i := range good.Match {
			e := deepCopy(good)
			e.Match = e.Match[:i]
			checkRight(t, fmt.Sprint(table, i, " matches"), s, table, e, api.ErrKey, api.ErrKey)
			e = deepCopy(good)
			e.Match[i] = api.Match{Value: n(1), Mask: n(0), Len: 3}
			checkRight(t, fmt.Sprint(table, " match ", i), s, table, e, api.ErrKey, api.ErrKey)
		}
		e := deepCopy(good)
		e.Match = append(e.Match, api.Match{})
		checkRight(t, table+": one more", s, table, e, api.ErrKey, api.ErrKey)
		e.Match = make([]api.Match, 1<<16)
		checkRight(t, table+": many", s, table, e, api.ErrKey, api.ErrKey)
	}
	eight := keyed(kindred{1, 1}, kindred{1, 2}, kindred{1, 3}, kindred{1, 4}, kindred{1, 5}, kindred{1, 6}, kindred{1, 7}, kindred{2, 8})
	sound(t, "eight", eight)
	e := entry(0, call("g"), exactly(1), exactly(3), exactly(7), exactly(15), exactly(31), exactly(63), exactly(127), begins(254, 7))
	checkRight(t, "eight parts", eight, "t", e, api.OK, api.OK)
	for i := range 7 {
		bad := deepCopy(e)
		bad.Match[i].Value.Lo++
		checkRight(t, fmt.Sprint("eight parts, ", i), eight, "t", bad, api.ErrKey, api.ErrKey)
	}
}

// TestPriorities: 0, or, in a table of the kind Ternary, 1 to MaxPriority.
func TestPriorities(t *testing.T) {
	for _, x := range []struct {
		s      api.Schema
		ranked bool
	}{
		{keyed(kindred{api.Exact, 4}), false},
		{keyed(kindred{api.Prefix, 4}), false},
		{keyed(kindred{api.Exact, 4}, kindred{api.Prefix, 4}), false},
		{keyed(kindred{api.Ternary, 4}), true},
		{keyed(kindred{api.Range, 4}), true},
		{keyed(kindred{api.Exact, 4}, kindred{api.Range, 4}), true},
		{keyed(kindred{api.Ternary, 4}, kindred{api.Exact, 4}), true},
	} {
		for _, priority := range []int{math.MinInt, -api.MaxPriority, -1, 0, 1, 2, 1000, api.MaxPriority - 1, api.MaxPriority, api.MaxPriority + 1, math.MaxInt, math.MinInt + 1, 1 << 32, 1<<32 + 1} {
			want := api.ErrPriority
			if !x.ranked && priority == 0 || x.ranked && priority >= 1 && priority <= 16777216 {
				want = api.OK
			}
			e := entry(priority, call("g"), make([]api.Match, len(x.s.Tables[0].Keys))...)
			checkRight(t, fmt.Sprint(x.s.Tables[0].Keys, priority), x.s, "t", e, want, want)
		}
	}
}

// TestCalls: the call is one that the table can have; Who doesn't look at it.
func TestCalls(t *testing.T) {
	s := whole()
	for _, x := range []struct {
		c    api.Call
		want api.Errno
	}{
		{call("none"), api.OK},
		{call("out", 511), api.OK},
		{call("out", 512), api.ErrArgs},
		{call("out"), api.ErrArgs},
		{call("out", 1, 2), api.ErrArgs},
		{call("none", 0), api.ErrArgs},
		{api.Call{Action: "hop", Args: []api.Bits{n(1<<48 - 1), n(1<<32 - 1), most}}, api.OK},
		{api.Call{Action: "hop", Args: []api.Bits{n(1 << 48), n(1<<32 - 1), most}}, api.ErrArgs},
		{api.Call{Action: "hop", Args: []api.Bits{n(1<<48 - 1), n(1 << 32), most}}, api.ErrArgs},
		{api.Call{Action: "hop", Args: []api.Bits{n(1<<48 - 1), {Hi: 1}, most}}, api.ErrArgs},
		{call("grow", 1, 255), api.ErrAction}, // an action of the schema, but not of the table
		{call("x"), api.ErrAction},
		{api.Call{}, api.ErrAction},
		{api.Call{Args: ns(1)}, api.ErrAction},
		{call("NONE"), api.ErrAction},
		{call("none "), api.ErrAction},
		{api.Call{Action: "none", Args: make([]api.Bits, 1<<16)}, api.ErrArgs},
	} {
		e := entry(0, x.c, begins(0x0a000000, 8), exactly(6))
		checkRight(t, short(x.c), s, "route", e, api.OK, x.want)
	}
}

// TestFirst: of several errors it is the first: ErrSchema, ErrTable, ErrKey, ErrPriority, ErrAction, ErrArgs.
func TestFirst(t *testing.T) {
	good := inT()
	noKey := entry(0, good.Call, exactly(256), begins(0, 0))
	unsound := small()
	unsound.Tables[0].Size = 0
	for _, x := range []struct {
		what       string
		s          api.Schema
		table      string
		e          api.Entry
		who, whole api.Errno
	}{
		{"right", small(), "t", good, api.OK, api.OK},
		{"unsound alone", unsound, "t", good, api.ErrSchema, api.ErrSchema},
		{"unsound, another table", unsound, "u", inU(), api.ErrSchema, api.ErrSchema},
		{"unsound, and no table", unsound, "v", good, api.ErrSchema, api.ErrSchema},
		{"unsound, and no key", unsound, "t", noKey, api.ErrSchema, api.ErrSchema},
		{"no table alone", small(), "v", good, api.ErrTable, api.ErrTable},
		{"no table: the empty name", small(), "", good, api.ErrTable, api.ErrTable},
		{"no table, and no entry", small(), "v", api.Entry{}, api.ErrTable, api.ErrTable},
		{"an action's name", small(), "f", good, api.ErrTable, api.ErrTable},
		{"no key, no priority", small(), "t", entry(1, good.Call, noKey.Match...), api.ErrKey, api.ErrKey},
		{"no key, no action", small(), "t", entry(0, call("x"), noKey.Match...), api.ErrKey, api.ErrKey},
		{"no priority, no action", small(), "t", entry(1, call("x"), good.Match...), api.ErrPriority, api.ErrPriority},
		{"no priority, no arguments", small(), "u", entry(0, call("g", 1), inU().Match...), api.ErrPriority, api.ErrPriority},
		{"no action, arguments", small(), "u", entry(1, call("f", 1000), inU().Match...), api.OK, api.ErrAction},
		{"no arguments", small(), "t", entry(0, call("f"), good.Match...), api.OK, api.ErrArgs},
		{"of another table", small(), "u", good, api.ErrKey, api.ErrKey},
		{"of no tables", api.Schema{}, "t", good, api.ErrTable, api.ErrTable},
	} {
		checkRight(t, x.what, x.s, x.table, x.e, x.who, x.whole)
	}
}
