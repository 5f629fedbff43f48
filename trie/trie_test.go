package trie_test

import (
	"math"
	"slices"
	"strings"
	"testing"

	"turnout/api"
	"turnout/trie"
)

// P13.1

func TestNewRefused(t *testing.T) {
	wrong := []int{math.MinInt, math.MinInt32, -4096, -128, -2, -1, 0}
	for _, n := range append(wrong, 129, 130, 136, 256, 1<<16, 1<<32+8, math.MaxInt32, math.MaxInt) {
		for _, most := range []int{-1, 0, 1, 4096, 4097} {
			if x, e := trie.New[string](n, most); x != nil || e != api.ErrArg {
				t.Errorf("New(%d, %d): %v %d", n, most, x, e)
			}
		}
	}
	for _, n := range append(wrong, 4097, 4098, 8192, 1<<16, 1<<32+8, math.MaxInt32, math.MaxInt) {
		for _, width := range []int{-1, 0, 1, 128, 129} {
			if x, e := trie.New[string](width, n); x != nil || e != api.ErrArg {
				t.Errorf("New(%d, %d): %v %d", width, n, x, e)
			}
		}
	}
}

func TestNew(t *testing.T) {
	for width := 1; width <= api.MaxWidth; width++ {
		for _, most := range []int{1, 2, 100, 4095, api.MaxCapacity} {
			x := fresh[int](t, width, most)
			checkMany(t, x, 0, 0)
			checkGet(t, x, trie.Prefix{}, 0, false)
			checkFind(t, x, api.Bits{}, trie.Prefix{}, 0, false)
			if l := x.Every(api.Bits{}); len(l) != 0 {
				t.Errorf("width %d: %v", width, l)
			}
			if l := collected(t, x.All(), width); len(l) != 0 {
				t.Errorf("width %d: %v", width, l)
			}
		}
	}
	for most := 1; most <= api.MaxCapacity; most++ {
		fresh[int](t, 8, most)
	}
}

// TestMost: as many as most says, and no more; what is there already or is no prefix is said of a full one, too.
func TestMost(t *testing.T) {
	for _, most := range []int{1, 2, 3, 4, 5, 7, 8, 9, 100, 1023, 1024, 4095, 4096} {
		x := fresh[int](t, 13, most)
		at := func(i int) trie.Prefix { return trie.Prefix{Value: api.Bits{Lo: uint64(i)}, Len: 13} }
		for i := range most {
			checkPut(t, x, at(i), i, api.OK)
		}
		for _, p := range []trie.Prefix{at(most), at(8191), {}, of("0", 13), of("1", 13)} {
			checkPut(t, x, p, 1, api.ErrFull)
			checkGet(t, x, p, 0, false)
			checkSet(t, x, p, 1, api.ErrAbsent)
			checkDrop(t, x, p, 0, false)
		}
		checkPut(t, x, at(8192), 1, api.ErrKey)
		checkPut(t, x, trie.Prefix{Value: api.Bits{Lo: 1}, Len: 12}, 1, api.ErrKey)
		checkPut(t, x, at(0), -1, api.ErrDup)
		checkPut(t, x, at(most-1), -1, api.ErrDup)
		checkGet(t, x, at(0), 0, true)
		checkGet(t, x, at(most-1), most-1, true)
		checkMany(t, x, most, 2*most-1)

		// One is dropped: there is room for one.
		checkSet(t, x, at(most/2), 7, api.OK)
		checkPut(t, x, at(most), 1, api.ErrFull)
		checkDrop(t, x, at(most/2), 7, true)
		checkPut(t, x, of("", 13), 8, api.OK)
		checkPut(t, x, at(most), 1, api.ErrFull)
		x.Clear()
		for i := range most {
			checkPut(t, x, at(8191-i), i, api.OK)
		}
		checkPut(t, x, at(0), 1, api.ErrFull)
		checkMany(t, x, most, 2*most-1)
	}
}

// P13.2

// noPrefixes are none of a width, each for another reason.
func noPrefixes(width int) []trie.Prefix {
	list := []trie.Prefix{{Len: -1}, {Len: math.MinInt}, {Len: width + 1}, {Len: math.MaxInt}, {Len: 1 << 32}, {Len: -width}}
	if width < 128 {
		over := number("1", width+1)
		for _, n := range []int{0, 1, width} {
			list = append(list, trie.Prefix{Value: over, Len: n})
		}
		list = append(list, trie.Prefix{Value: api.Bits{Hi: 1 << 63}, Len: width}, trie.Prefix{Value: api.Bits{Hi: 1 << 63}})
	}
	for n := range width {
		// A 1 just behind the bits, and one at the end.
		list = append(list, trie.Prefix{Value: number(strings.Repeat("1", n+1), width), Len: n})
		list = append(list, trie.Prefix{Value: api.Bits{Lo: 1}, Len: n})
	}
	return list
}

// TestNoPrefix: it is refused, or nothing is kept there, whatever is kept.
func TestNoPrefix(t *testing.T) {
	for _, width := range []int{1, 2, 8, 31, 32, 63, 64, 65, 127, 128} {
		empty, some, full := fresh[int](t, width, 9), fresh[int](t, width, 9), fresh[int](t, width, 2)
		for _, x := range []*trie.Trie[int]{some, full} {
			checkPut(t, x, of("", width), 1, api.OK)
			checkPut(t, x, of(strings.Repeat("1", width), width), 2, api.OK)
		}
		for _, p := range noPrefixes(width) {
			for _, x := range []*trie.Trie[int]{empty, some, full} {
				long := x.Len()
				checkPut(t, x, p, 5, api.ErrKey)
				checkSet(t, x, p, 5, api.ErrKey)
				checkDrop(t, x, p, 0, false)
				checkGet(t, x, p, 0, false)
				if l := collected(t, x.Under(p), width); len(l) != 0 {
					t.Errorf("Under(%v) in %d: %v", p, width, l)
				}
				checkMany(t, x, long, long)
			}
		}
	}
}

// TestEachLen: in each width, under all prefixes of one value: each is one of its own.
func TestEachLen(t *testing.T) {
	for width := 1; width <= 128; width++ {
		x := fresh[int](t, width, width+1)
		all := strings.Repeat("1011", 32)[:width]
		for n := width; n >= 0; n-- {
			checkGet(t, x, of(all[:n], width), 0, false)
			checkSet(t, x, of(all[:n], width), 1, api.ErrAbsent)
			checkPut(t, x, of(all[:n], width), n, api.OK)
			checkPut(t, x, of(all[:n], width), 1, api.ErrDup)
			checkMany(t, x, width+1-n, width+1-n)
		}
		for n := range width + 1 {
			checkGet(t, x, of(all[:n], width), n, true)
			checkSet(t, x, of(all[:n], width), -n, api.OK)
			checkGet(t, x, of(all[:n], width), -n, true)
		}
		checkPut(t, x, of("0", width), 1, api.ErrFull)
		if l := x.Every(number(all, width)); len(l) != width+1 || l[0] != of("", width) || l[width] != of(all, width) {
			t.Errorf("width %d: %v", width, l)
		}
		for n := width; n >= 0; n-- {
			checkFind(t, x, number(all, width), of(all[:n], width), -n, true)
			checkDrop(t, x, of(all[:n], width), -n, true)
			checkDrop(t, x, of(all[:n], width), 0, false)
			checkGet(t, x, of(all[:n], width), 0, false)
			checkMany(t, x, n, n)
		}
		checkFind(t, x, number(all, width), trie.Prefix{}, 0, false)
	}
}

// TestZeroIsKept: a zero thing is a thing.
func TestZeroIsKept(t *testing.T) {
	x := fresh[int](t, 8, 9)
	checkPut(t, x, of("", 8), 0, api.OK)
	checkPut(t, x, of("01", 8), 0, api.OK)
	checkPut(t, x, of("01", 8), 0, api.ErrDup)
	checkGet(t, x, of("01", 8), 0, true)
	checkFind(t, x, number("01", 8), of("01", 8), 0, true)
	checkFind(t, x, number("00", 8), of("", 8), 0, true)
	checkTold(t, x.All(), told{"", 0}, told{"01", 0})
	checkDrop(t, x, of("01", 8), 0, true)
	checkDrop(t, x, of("01", 8), 0, false)
	checkMany(t, x, 1, 1)
}

// TestErrorsChangeNothing: what is refused leaves all as it was.
func TestErrorsChangeNothing(t *testing.T) {
	x := fresh[int](t, 8, 3)
	checkPut(t, x, of("1", 8), 1, api.OK)
	checkPut(t, x, of("1011", 8), 2, api.OK)
	checkPut(t, x, of("1000", 8), 3, api.OK)
	checkPut(t, x, of("1", 8), 9, api.ErrDup)
	checkPut(t, x, of("1011", 8), 9, api.ErrDup)
	checkPut(t, x, of("10", 8), 9, api.ErrFull) // a fork stands there, and nothing is kept
	checkPut(t, x, of("0", 8), 9, api.ErrFull)
	checkPut(t, x, of("1010", 8), 9, api.ErrFull)
	checkSet(t, x, of("10", 8), 9, api.ErrAbsent)
	checkSet(t, x, of("101", 8), 9, api.ErrAbsent)
	checkSet(t, x, of("10110", 8), 9, api.ErrAbsent)
	checkDrop(t, x, of("10", 8), 0, false)
	checkDrop(t, x, of("", 8), 0, false)
	checkDrop(t, x, of("10111111", 8), 0, false)
	checkGet(t, x, of("10", 8), 0, false)
	checkMany(t, x, 3, 4)
	checkTold(t, x.All(), told{"1", 1}, told{"1000", 3}, told{"1011", 2})
}

func TestClear(t *testing.T) {
	x := filled(t, "", "0", "1", "1010", "1011", "11111111")
	x.Clear()
	checkMany(t, x, 0, 0)
	checkTold(t, x.All())
	checkEvery(t, x, number("1010", 8))
	checkGet(t, x, of("", 8), 0, false)
	checkFind(t, x, number("1010", 8), trie.Prefix{}, 0, false)
	checkDrop(t, x, of("1010", 8), 0, false)
	checkSet(t, x, of("1010", 8), 1, api.ErrAbsent)
	x.Clear()
	checkPut(t, x, of("1010", 8), 7, api.OK)
	checkTold(t, x.All(), told{"1010", 7})
	checkPut(t, x, trie.Prefix{Len: 9}, 7, api.ErrKey) // the width stays
}

// P13.3

// TestFindInTheMiddle: a value that leaves the way between two nodes has what is above.
func TestFindInTheMiddle(t *testing.T) {
	x := filled(t, "10", "10110", "10110011", "1000")
	for bits, want := range map[string]told{
		"10110011": {"10110011", 2}, "10110010": {"10110", 1}, "10110111": {"10110", 1}, "10111011": {"10", 0},
		"10100011": {"10", 0}, "10010011": {"10", 0}, "10000000": {"1000", 3}, "10001111": {"1000", 3},
	} {
		checkFind(t, x, number(bits, 8), of(want.bits, 8), want.v, true)
	}
	for _, bits := range []string{"11110011", "00110011", "00000000", "01111111"} {
		checkFind(t, x, number(bits, 8), trie.Prefix{}, 0, false)
		checkEvery(t, x, number(bits, 8))
	}
	checkEvery(t, x, number("10110011", 8), "10", "10110", "10110011")
	checkEvery(t, x, number("10110111", 8), "10", "10110")
	checkEvery(t, x, number("10001111", 8), "10", "1000")
}

// TestFindTooGreat: a value that does not fit has no prefix, not even the empty one.
func TestFindTooGreat(t *testing.T) {
	for _, width := range []int{1, 7, 8, 63, 64, 65, 127} {
		x := fresh[int](t, width, 9)
		checkPut(t, x, of("", width), 1, api.OK)
		checkPut(t, x, of("1", width), 2, api.OK)
		checkPut(t, x, of("0", width), 3, api.OK)
		for _, a := range []api.Bits{number("1", width+1), number(strings.Repeat("1", width+1), width+1), {Hi: 1 << 63}, {Hi: math.MaxUint64, Lo: math.MaxUint64}} {
			checkFind(t, x, a, trie.Prefix{}, 0, false)
			if l := x.Every(a); len(l) != 0 {
				t.Errorf("Every(%v) in %d: %v", a, width, l)
			}
		}
		checkFind(t, x, number(strings.Repeat("1", width), width), of("1", width), 2, true)
	}
	x := fresh[int](t, 128, 9)
	checkPut(t, x, of("", 128), 1, api.OK)
	checkFind(t, x, api.Bits{Hi: math.MaxUint64, Lo: math.MaxUint64}, of("", 128), 1, true)
}

// P13.4

func TestNodes(t *testing.T) {
	for _, c := range []struct {
		list  string
		nodes int
	}{
		{"0", 1}, {"00000000", 1}, {"0 1", 3}, {"00 1", 3}, {"01 001", 3}, {"0 1 00", 4},
		{"1 11", 2}, {"1 11 111", 3}, {"1 10 11", 3}, {"10 11", 3}, {"10 110 111", 5}, {"1000 1011", 3},
		{"00 01 10 11", 7}, {"00 01 10", 5}, {"0 00 01 10 11", 7}, {"00000000 00000001", 3}, {"0000000 00000000 00000001", 3},
	} {
		x := filled(t, strings.Fields(c.list)...)
		if x.Nodes() != c.nodes {
			t.Errorf("%s: %d, not %d", c.list, x.Nodes(), c.nodes)
		}
		// Under the empty prefix something is kept: it is no fork then.
		forkAbove := strings.Contains(" "+c.list, " 0") && strings.Contains(" "+c.list, " 1")
		checkPut(t, x, of("", 8), 9, api.OK)
		if want := c.nodes + 1; !forkAbove && x.Nodes() != want || forkAbove && x.Nodes() != c.nodes {
			t.Errorf("* %s: %d", c.list, x.Nodes())
		}
	}
	checkMany(t, filled(t, ""), 1, 1)
}

// TestForkComesAndGoes: a fork is there as long as it is one; a thing may be put in its place and taken out again.
func TestForkComesAndGoes(t *testing.T) {
	x := filled(t, "1011", "1000")
	checkMany(t, x, 2, 3)
	checkPut(t, x, of("10", 8), 2, api.OK)
	checkMany(t, x, 3, 3)
	checkDrop(t, x, of("10", 8), 2, true)
	checkMany(t, x, 2, 3)
	checkPut(t, x, of("1", 8), 3, api.OK)
	checkMany(t, x, 3, 4)
	checkPut(t, x, of("101", 8), 4, api.OK)
	checkMany(t, x, 4, 5)
	checkDrop(t, x, of("1011", 8), 0, true)
	checkMany(t, x, 3, 4)
	checkDrop(t, x, of("101", 8), 4, true)
	checkMany(t, x, 2, 2)
	checkDrop(t, x, of("1000", 8), 1, true)
	checkMany(t, x, 1, 1)
	checkDrop(t, x, of("1", 8), 3, true)
	checkMany(t, x, 0, 0)
}

// P13.5

func TestUnder(t *testing.T) {
	x := filled(t, "1", "1011", "1000", "10110", "0", "00000000")
	for bits, want := range map[string][]told{
		"":         {{"0", 4}, {"00000000", 5}, {"1", 0}, {"1000", 2}, {"1011", 1}, {"10110", 3}},
		"1":        {{"1", 0}, {"1000", 2}, {"1011", 1}, {"10110", 3}},
		"10":       {{"1000", 2}, {"1011", 1}, {"10110", 3}},
		"101":      {{"1011", 1}, {"10110", 3}},
		"1011":     {{"1011", 1}, {"10110", 3}},
		"10110":    {{"10110", 3}},
		"100":      {{"1000", 2}},
		"1000":     {{"1000", 2}},
		"0":        {{"0", 4}, {"00000000", 5}},
		"00":       {{"00000000", 5}},
		"00000000": {{"00000000", 5}},
		"11":       nil, "111": nil, "1001": nil, "10111": nil, "10001": nil, "101100": nil, "01": nil, "0000001": nil, "00000001": nil, "1010": nil,
	} {
		if got := collected(t, x.Under(of(bits, 8)), 8); !slices.Equal(got, want) {
			t.Errorf("Under(%s*) is %v, not %v", bits, got, want)
		}
	}
}

// TestOrder: a prefix is ahead of all that it begins, also of those with the same value; else the lesser value is first, whatever the lengths.
func TestOrder(t *testing.T) {
	in := []string{"11111111", "1", "01111111", "0", "00000000", "", "0000", "0001", "1110", "10", "01", "00", "111", "0000000"}
	want := []string{"", "0", "00", "0000", "0000000", "00000000", "0001", "01", "01111111", "1", "10", "111", "1110", "11111111"}
	x := filled(t, in...)
	var got []string
	for p := range x.All() {
		got = append(got, written(t, p, 8))
	}
	if strings.Join(got, " ") != strings.Join(want, " ") {
		t.Errorf("%q", got)
	}
}

// P13.6

func TestCopy(t *testing.T) {
	x := fresh[int](t, 8, 3)
	checkPut(t, x, of("1", 8), 1, api.OK)
	checkPut(t, x, of("1011", 8), 2, api.OK)
	c := x.Copy()
	checkTold(t, c.All(), told{"1", 1}, told{"1011", 2})

	// What is done to the one is not seen in the other.
	checkPut(t, x, of("10", 8), 3, api.OK)
	checkPut(t, c, of("1000", 8), 4, api.OK)
	checkSet(t, x, of("1011", 8), 5, api.OK)
	checkDrop(t, c, of("1", 8), 1, true)
	checkTold(t, x.All(), told{"1", 1}, told{"10", 3}, told{"1011", 5})
	checkTold(t, c.All(), told{"1000", 4}, told{"1011", 2})
	checkMany(t, x, 3, 3)
	checkMany(t, c, 2, 3)

	// The most and the width are the same.
	checkPut(t, c, trie.Prefix{Len: 9}, 1, api.ErrKey)
	checkPut(t, c, of("11111111", 8), 6, api.OK)
	checkPut(t, c, of("0", 8), 6, api.ErrFull)
	checkPut(t, x, of("0", 8), 6, api.ErrFull)

	d := c.Copy()
	c.Clear()
	checkMany(t, c, 0, 0)
	checkMany(t, d, 3, 5)
	d.Clear()
	checkMany(t, x, 3, 3)
	e := d.Copy()
	checkMany(t, e, 0, 0)
	checkPut(t, e, of("", 8), 1, api.OK)
	checkMany(t, d, 0, 0)
}

// TestCopies: a chain of copies, each with one more, all of them told behind that.
func TestCopies(t *testing.T) {
	var list []*trie.Trie[int]
	x := fresh[int](t, 16, 100)
	for i := range 100 {
		list = append(list, x)
		x = x.Copy()
		p := trie.Prefix{Value: api.Bits{Lo: uint64(i * 7919 % 65536)}, Len: 16}
		checkPut(t, x, p, i, api.OK)
	}
	for i, x := range list {
		if x.Len() != i || len(collected(t, x.All(), 16)) != i {
			t.Errorf("the copy %d: %d", i, x.Len())
		}
	}
}
