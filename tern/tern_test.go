package tern_test

import (
	"math"
	"slices"
	"testing"

	"turnout/api"
	"turnout/match"
	"turnout/tern"
)

// P14.1

func checkNew(t *testing.T, s api.Schema, table string, most int, want api.Errno) {
	t.Helper()
	if l, e := tern.New(s, table, most); e != want || (l == nil) != (want != api.OK) {
		t.Errorf("New(.., %q, %d): %v %d, not %d", table, most, l, e, want)
	}
}

func TestNewOfMost(t *testing.T) {
	for _, most := range []int{math.MinInt, -1, 0, 4097, 5000, math.MaxInt} {
		checkNew(t, small(), "u", most, api.ErrArg)
		checkNew(t, small(), "none", most, api.ErrArg)
		checkNew(t, api.Schema{Meta: []api.Field{{}}}, "u", most, api.ErrArg)
	}
	for _, most := range []int{1, 2, 4095, 4096} {
		checkNew(t, small(), "u", most, api.OK)
	}
}

func TestNewOfSchema(t *testing.T) {
	s := small()
	s.Tables[0].Size = 0
	checkNew(t, s, "u", 1, api.ErrSchema)
	checkNew(t, s, "none", 1, api.ErrSchema)
	s = small()
	s.Control = []api.Stage{{Kind: 9}}
	checkNew(t, s, "u", 1, api.ErrSchema)
	s = small()
	s.States = []api.State{{Name: "s", Header: "h", Next: "s"}}
	checkNew(t, s, "u", 1, api.ErrSchema)
	for _, name := range []string{"", "v", "U", "u ", "h", "g"} {
		checkNew(t, small(), name, 1, api.ErrTable)
	}
	checkNew(t, api.Schema{}, "u", 1, api.ErrTable)
}

// TestNewIsEmpty: of each table of a schema, whatever its kind; its Size is not looked at.
func TestNewIsEmpty(t *testing.T) {
	s := whole()
	for _, x := range s.Tables {
		l := fresh(t, s, x.Name, 7)
		checkAll(t, l)
		checkGroups(t, l, 0)
		checkHidden(t, l)
	}
}

// TestSchemaAsItIsThen: what becomes of the schema behind New is not seen.
func TestSchemaAsItIsThen(t *testing.T) {
	s := small()
	l, k := fresh(t, s, "u", 9), fresh(t, s, "t", 9)
	f := s.Headers[0].Fields
	f[0].Width, f[1].Width = 1, 7
	f[1].Name = "x"
	s.Headers[0].Name = "x"
	s.Actions[0].Params[0].Width = 1
	s.Actions[1].Name = "x"
	for i := range s.Tables {
		s.Tables[i].Name = "x"
		s.Tables[i].Keys[0].Kind, s.Tables[i].Keys[1].Kind = api.Exact, api.Exact
		s.Tables[i].Actions[0] = "x"
	}
	x := inU(0x82, 0xc3, 5, 900, 7)
	checkPut(t, l, x, api.OK)
	checkPut(t, l, inU(4, 3, 5, 9, 7), api.ErrKey)
	checkFind(t, l, ns(0xbe, 900), x)
	y := entry(0, call("f", 0x1ff), exactly(200), begins(0x1200, 8))
	checkPut(t, k, y, api.OK)
	checkPut(t, k, entry(0, call("f", 0x200), exactly(201), begins(0x1200, 8)), api.ErrArgs)
	checkPut(t, k, entry(0, call("x"), exactly(201), begins(0x1200, 8)), api.ErrAction)
	checkFind(t, k, ns(200, 0x12ff), y)
}

// P14.2

// wrong are entries that are not right for the small schema's table u, with their errors.
func wrong() map[api.Errno][]api.Entry {
	g := call("g")
	return map[api.Errno][]api.Entry{
		api.ErrKey: {
			{}, {Priority: 7, Call: g},
			entry(7, g, masked(2, 3)),
			entry(7, g, masked(2, 3), between(5, 9), exactly(0)),
			inU(4, 3, 5, 9, 7), inU(2, 3, 9, 5, 7), inU(2, 0x103, 5, 9, 7), inU(2, 3, 5, 0x10000, 7),
			entry(7, g, api.Match{Value: n(2), Mask: n(3), Len: 1}, between(5, 9)),
			entry(7, g, masked(2, 3), api.Match{Value: n(5), Mask: n(9), Len: -1}),
			entry(7, g, between(5, 9), masked(2, 3)),
			entry(0, call("x"), masked(2, 3)),
			inU(4, 3, 5, 9, 0),
		},
		api.ErrPriority: {
			inU(2, 3, 5, 9, 0), inU(2, 3, 5, 9, -1), inU(2, 3, 5, 9, api.MaxPriority+1), inU(2, 3, 5, 9, math.MaxInt), inU(2, 3, 5, 9, math.MinInt),
			entry(0, call("x"), masked(2, 3), between(5, 9)),
		},
		api.ErrAction: {
			entry(7, call("f", 1), masked(2, 3), between(5, 9)),
			entry(7, call(""), masked(2, 3), between(5, 9)),
			entry(8, call("x", 1), masked(2, 3), between(5, 9)),
		},
		api.ErrArgs: {
			entry(7, call("g", 0), masked(2, 3), between(5, 9)),
			entry(8, call("g", 0, 0), masked(2, 3), between(5, 9)),
		},
	}
}

// TestNotRight: Put's and Set's error is Right's, whether the same one is there or not, and whether there is room or not; nothing changes.
func TestNotRight(t *testing.T) {
	x, y := inU(2, 3, 5, 9, 7), inU(0, 0, 0, 0, 1)
	for most := 2; most <= 3; most++ {
		l := fresh(t, small(), "u", most)
		checkPut(t, l, x, api.OK)
		checkPut(t, l, y, api.OK)
		for want, list := range wrong() {
			for _, e := range list {
				checkPut(t, l, e, want)
				checkSet(t, l, e, want)
				checkAll(t, l, x, y)
				checkGroups(t, l, 2)
			}
		}
	}
	for want, list := range wrong() {
		for _, e := range list {
			checkPut(t, filled(t), e, want)
			checkSet(t, filled(t), e, want)
		}
	}
}

// TestRightOfAll: in each table of a schema Put takes just what match.Right of the schema takes.
func TestRightOfAll(t *testing.T) {
	s := whole()
	port := func(from, to uint64) api.Match { return between(from, to) }
	for table, list := range map[string][]api.Entry{
		"route": {
			entry(0, call("none"), begins(0x0a000000, 8), exactly(6)),
			entry(0, call("out", 511), begins(0, 0), exactly(255)),
			entry(0, call("out", 512), begins(0, 0), exactly(255)),
			entry(0, call("hop", 1<<48-1, 1<<32-1, 5), begins(0xffffffff, 32), exactly(0)),
			entry(0, call("hop", 1<<48, 0, 5), begins(0xfffffffe, 32), exactly(0)),
			entry(0, call("hop", 0, 1<<32, 5), begins(0xfffffffe, 32), exactly(0)),
			entry(0, call("hop", 0, 1<<31), begins(0xfffffffe, 32), exactly(0)),
			entry(0, call("grow", 1, 1), begins(0, 0), exactly(1)),
			entry(0, call("none"), begins(0x0a000001, 31), exactly(6)),
			entry(0, call("none"), begins(0, 33), exactly(6)),
			entry(0, call("none"), begins(0, 32), exactly(256)),
			entry(1, call("none"), begins(0, 32), exactly(255)),
		},
		"acl": {
			entry(1, call("grow", 1, 255), port(0, 511), masked(0, 0), exactly(1), api.Match{Mask: most}),
			entry(1, call("grow", 2, 255), port(0, 511), masked(0, 0), exactly(0), api.Match{Mask: most}),
			entry(1, call("grow", 1, 255), port(0, 512), masked(0, 0), exactly(1), api.Match{Mask: most}),
			entry(1, call("grow", 1, 255), port(0, 511), masked(0, 1<<48), exactly(1), api.Match{Mask: most}),
			entry(1, call("grow", 1, 255), port(0, 511), masked(0, 0), exactly(2), api.Match{Mask: most}),
			entry(1<<24, call("out", 1), port(7, 7), masked(1, 1<<48-1), exactly(0), api.Match{Value: most, Mask: most}),
			entry(1<<24+1, call("out", 1), port(7, 7), masked(1, 1<<48-1), exactly(0), api.Match{Value: most, Mask: most}),
			entry(1, call("none"), port(7, 7), masked(1, 1<<48-1), exactly(0), api.Match{Value: most, Mask: most}),
		},
		"mac":  {entry(0, call("none"), exactly(1<<48-1), api.Match{Value: most}, exactly(0)), entry(0, call("none"), exactly(1<<48), exactly(0), exactly(0))},
		"long": {entry(0, call("none"), api.Match{Value: most, Len: 128}), entry(0, call("none"), api.Match{Value: most, Len: 127}), entry(0, call("out", 1), begins(0, 0))},
		"mask": {entry(3, call("none"), api.Match{Value: most, Mask: most}, masked(0, 0)), entry(3, call("none"), masked(1, 0), masked(0, 0))},
	} {
		right := 0
		l := fresh(t, s, table, 9)
		for _, e := range list {
			want := match.Right(s, table, e)
			checkPut(t, l, e, want)
			if want == api.OK {
				right++
				checkGet(t, l, e, e)
			}
		}
		if l.Len() != right || right == 0 || right == len(list) {
			t.Errorf("%s: %d of %d, Len is %d", table, right, len(list), l.Len())
		}
	}
}

func TestPut(t *testing.T) {
	l := fresh(t, small(), "u", 3)
	x, y, z, more := inU(2, 3, 5, 9, 7), inU(2, 3, 5, 9, 6), inU(2, 7, 5, 9, 7), inU(2, 3, 5, 8, 7)
	for _, e := range []api.Entry{y, z, x} {
		checkPut(t, l, e, api.OK)
		checkPut(t, l, e, api.ErrDup)
		checkGet(t, l, e, e)
	}
	checkPut(t, l, more, api.ErrFull)
	checkPut(t, l, y, api.ErrDup) // it is there: that is told first
	checkAll(t, l, x, z, y)
	checkGroups(t, l, 2)
	checkDrop(t, l, z, z)
	checkPut(t, l, more, api.OK)
	checkPut(t, l, z, api.ErrFull)
	checkAll(t, l, more, x, y)
}

// TestUpToMost: of one shape, of all shapes unlike, and of one match with all priorities unlike.
func TestUpToMost(t *testing.T) {
	for what, e := range map[string]func(i uint64) api.Entry{
		"one shape":   func(i uint64) api.Entry { return inU(i%256, 255, 0, 9, 1+int(i/256)) },
		"many shapes": func(i uint64) api.Entry { return inU(0, 0, i, i+5, 1) },
		"one match":   func(i uint64) api.Entry { return inU(1, 1, 7, 8, 1+int(i*7%4096)) },
	} {
		for _, most := range []int{1, 2, 100, api.MaxCapacity} {
			l := fresh(t, small(), "u", most)
			for i := range uint64(most) {
				checkPut(t, l, e(i), api.OK)
			}
			checkPut(t, l, inU(128, 128, 3, 4, 77), api.ErrFull)
			if l.Len() != most {
				t.Errorf("%s: %d of %d", what, l.Len(), most)
			}
			for i := range uint64(most) {
				checkDrop(t, l, e(i), e(i))
			}
			checkAll(t, l)
			checkGroups(t, l, 0)
		}
	}
}

// TestSet: the call alone becomes another one; a refused Set changes nothing.
func TestSet(t *testing.T) {
	s := keyed(kindred{api.Ternary, 8})
	l := fresh(t, s, "t", 2)
	e := func(v, mask uint64, priority int, p uint64) api.Entry {
		return entry(priority, call("g", p), masked(v, mask))
	}
	checkSet(t, l, e(1, 1, 5, 0), api.ErrAbsent)
	checkPut(t, l, e(1, 1, 5, 1), api.OK)
	checkPut(t, l, e(1, 1, 4, 2), api.OK)
	checkSet(t, l, e(1, 1, 4, 3), api.OK) // in a full list
	checkAll(t, l, e(1, 1, 5, 1), e(1, 1, 4, 3))
	checkSet(t, l, e(1, 1, 5, 4), api.OK)
	checkAll(t, l, e(1, 1, 5, 4), e(1, 1, 4, 3))
	checkFind(t, l, ns(3), e(1, 1, 5, 4))
	for _, absent := range []api.Entry{e(1, 1, 3, 9), e(1, 1, 6, 9), e(0, 1, 5, 9), e(1, 3, 5, 9), e(0, 0, 5, 9)} {
		checkSet(t, l, absent, api.ErrAbsent)
	}
	checkSet(t, l, e(1, 1, 5, 1<<32), api.ErrArgs)
	checkSet(t, l, e(1, 1, 0, 9), api.ErrPriority)
	checkSet(t, l, e(2, 1, 5, 9), api.ErrKey)
	checkAll(t, l, e(1, 1, 5, 4), e(1, 1, 4, 3))
	checkGroups(t, l, 1)
}

// TestDropAndGet: the entry's call is not looked at, and it is told as it was kept.
func TestDropAndGet(t *testing.T) {
	l := fresh(t, keyed(kindred{api.Ternary, 8}, kindred{api.Exact, 8}), "t", 9)
	e := func(p uint64, priority int) api.Entry {
		return entry(priority, call("g", p), masked(2, 3), exactly(7))
	}
	kept, other := e(5, 6), e(7, 4)
	checkPut(t, l, kept, api.OK)
	checkPut(t, l, other, api.OK)
	for _, c := range []api.Call{{}, call("g"), call("g", 9), call("x", 1, 2, 3), {Action: "g", Args: []api.Bits{most}}} {
		asked := copied(kept)
		asked.Call = c
		checkGet(t, l, asked, kept)
		again := l.Copy()
		checkDrop(t, again, asked, kept)
		checkDrop(t, again, asked)
		checkGet(t, again, asked)
		checkAll(t, again, other)
	}
	checkAll(t, l, kept, other)
}

// TestNotThere: what Drop and Get tell of entries that are not there, among them such as can't be.
func TestNotThere(t *testing.T) {
	x, y := inU(2, 3, 5, 9, 7), inU(0, 0, 0, 0xffff, 1)
	l := filled(t, x, y)
	absent := []api.Entry{
		inU(2, 3, 5, 9, 6), inU(2, 3, 5, 9, 8), inU(1, 3, 5, 9, 7), inU(2, 2, 5, 9, 7), inU(2, 3, 4, 9, 7), inU(2, 3, 5, 10, 7), inU(2, 7, 5, 9, 7),
		inU(6, 3, 5, 9, 7), inU(0x102, 3, 5, 9, 7), inU(9, 0, 0, 0xffff, 1),
		entry(7, call("g"), api.Match{Value: n(2), Mask: n(3), Len: 1}, between(5, 9)),
		entry(7, call("g"), masked(2, 3), api.Match{Value: n(5), Mask: n(9), Len: 8}),
		entry(7, call("g"), api.Match{Value: api.Bits{Hi: 1, Lo: 2}, Mask: n(3)}, between(5, 9)),
	}
	for code, list := range wrong() {
		if code == api.ErrKey || code == api.ErrPriority {
			absent = append(absent, list...)
		}
	}
	for _, e := range absent {
		checkGet(t, l, e)
		checkDrop(t, l, e)
		checkAll(t, l, x, y)
	}

	k := fresh(t, keyed(kindred{api.Prefix, 8}, kindred{api.Exact, 4}), "t", 9)
	p, q := entry(0, call("g", 1), begins(0, 0), exactly(3)), entry(0, call("g", 1), begins(0xa0, 4), exactly(3))
	checkPut(t, k, p, api.OK)
	checkPut(t, k, q, api.OK)
	for _, e := range []api.Entry{
		entry(0, call("g", 1), begins(0, 9), exactly(3)),
		entry(0, call("g", 1), begins(0, -1), exactly(3)),
		entry(0, call("g", 1), begins(0, 129), exactly(3)),
		entry(0, call("g", 1), begins(0x10, 0), exactly(3)),
		entry(0, call("g", 1), begins(0xa8, 4), exactly(3)),
		entry(0, call("g", 1), begins(0xa0, 5), exactly(3)),
		entry(0, call("g", 1), begins(0xa0, 4), exactly(0x13)),
		entry(0, call("g", 1), begins(0x1a0, 4), exactly(3)),
		entry(0, call("g", 1), begins(0xa0, 4), masked(3, 1)),
		entry(0, call("g", 1), begins(0xa0, 4), begins(3, 1)),
		entry(1, call("g", 1), begins(0xa0, 4), exactly(3)),
	} {
		checkGet(t, k, e)
		checkDrop(t, k, e)
		checkSet(t, k, e, match.Right(keyed(kindred{api.Prefix, 8}, kindred{api.Exact, 4}), "t", e)+absentOf(e))
		checkAll(t, k, q, p)
	}
}

// absentOf is ErrAbsent, if the entry is one that might be there.
func absentOf(e api.Entry) api.Errno {
	if match.Right(keyed(kindred{api.Prefix, 8}, kindred{api.Exact, 4}), "t", e) == api.OK {
		return api.ErrAbsent
	}
	return api.OK
}

func TestClear(t *testing.T) {
	l := fresh(t, small(), "u", 2)
	x, y, z := inU(2, 3, 5, 9, 7), inU(2, 3, 5, 9, 8), inU(0, 0, 0, 0xffff, 1)
	for range 3 {
		l.Clear()
		checkAll(t, l)
		checkGroups(t, l, 0)
		checkHidden(t, l)
		checkFind(t, l, ns(2, 5))
		checkEvery(t, l, ns(2, 5))
		checkGet(t, l, x)
		checkDrop(t, l, x)
		checkSet(t, l, x, api.ErrAbsent)
		checkPut(t, l, z, api.OK)
		checkPut(t, l, x, api.OK)
		checkPut(t, l, y, api.ErrFull)
		checkAll(t, l, x, z)
	}
}

// P14.3

func TestFindIsFirst(t *testing.T) {
	wide, mid, narrow := inU(0, 0, 0, 0xffff, 5), inU(1, 1, 0, 99, 5), inU(1, 3, 7, 8, 5)
	low, high := inU(1, 3, 7, 8, 4), inU(0, 0, 7, 7, 6)
	l := filled(t, low, narrow, high, mid, wide)
	checkAll(t, l, high, wide, mid, narrow, low)
	checkEvery(t, l, ns(1, 7), high, wide, mid, narrow, low)
	checkFind(t, l, ns(1, 7), high)
	checkEvery(t, l, ns(5, 8), wide, mid, narrow, low)
	checkFind(t, l, ns(5, 8), wide)
	checkDrop(t, l, wide, wide)
	checkFind(t, l, ns(5, 8), mid)
	checkEvery(t, l, ns(3, 8), mid)
	checkEvery(t, l, ns(2, 8))
	checkFind(t, l, ns(2, 8))
	checkDrop(t, l, mid, mid)
	checkFind(t, l, ns(5, 8), narrow)
	checkDrop(t, l, narrow, narrow)
	checkFind(t, l, ns(5, 8), low)
}

// TestEdgesOfRanges: from the first value to the last one.
func TestEdgesOfRanges(t *testing.T) {
	x, first, last := inU(0, 0, 5, 9, 1), inU(0, 0, 0, 0, 1), inU(0, 0, 0xffff, 0xffff, 1)
	l := filled(t, x, first, last)
	for key, want := range map[uint64][]api.Entry{0: {first}, 1: nil, 4: nil, 5: {x}, 7: {x}, 9: {x}, 10: nil, 0xfffe: nil, 0xffff: {last}, 0x10000: nil} {
		checkFind(t, l, ns(0xff, key), want...)
		checkEvery(t, l, ns(0xff, key), want...)
	}
	great := fresh(t, keyed(kindred{api.Range, 128}), "t", 9)
	all, top := entry(1, call("g", 1), api.Match{Mask: most}), entry(2, call("g", 1), api.Match{Value: api.Bits{Hi: 1}, Mask: api.Bits{Hi: 2, Lo: 3}})
	checkPut(t, great, all, api.OK)
	checkPut(t, great, top, api.OK)
	for _, a := range []api.Bits{{}, {Lo: math.MaxUint64}, {Hi: 2, Lo: 4}, most} {
		checkFind(t, great, []api.Bits{a}, all)
	}
	for _, a := range []api.Bits{{Hi: 1}, {Hi: 1, Lo: math.MaxUint64}, {Hi: 2}, {Hi: 2, Lo: 3}} {
		checkFind(t, great, []api.Bits{a}, top)
	}
}

// TestNoKey: what is no key of the table hits nothing, also where an entry's match would not look at what is wrong.
func TestNoKey(t *testing.T) {
	l := filled(t, inU(0, 0, 0, 0xffff, 1), inU(1, 1, 0, 0xffff, 2))
	for _, key := range [][]api.Bits{
		nil, {}, ns(1), ns(1, 1, 1), ns(1, 1, 0), ns(1, 1, 1, 1, 1, 1, 1, 1, 1, 1),
		ns(256, 1), ns(257, 1), {{Hi: 1, Lo: 1}, n(1)}, {most, n(1)}, ns(1, 0x10000), {n(1), {Hi: 1 << 63}},
	} {
		checkFind(t, l, key)
		checkEvery(t, l, key)
	}
	checkFind(t, l, ns(255, 0xffff), inU(1, 1, 0, 0xffff, 2))
	checkFind(t, l, ns(254, 0), inU(0, 0, 0, 0xffff, 1))

	k := fresh(t, keyed(kindred{api.Prefix, 8}, kindred{api.Exact, 4}), "t", 9)
	checkPut(t, k, entry(0, call("g", 1), begins(0, 0), exactly(3)), api.OK)
	checkPut(t, k, entry(0, call("g", 1), begins(0x80, 1), exactly(3)), api.OK)
	for _, key := range [][]api.Bits{ns(256, 3), ns(0x180, 3), ns(0x80, 0x13), ns(3), ns(3, 3, 0)} {
		checkFind(t, k, key)
		checkEvery(t, k, key)
	}
	checkEvery(t, k, ns(0xff, 3), entry(0, call("g", 1), begins(0x80, 1), exactly(3)), entry(0, call("g", 1), begins(0, 0), exactly(3)))
}

// TestLongestPrefix: in a table of the kind Prefix the greatest Len is the first one, behind an exact part and ahead of one.
func TestLongestPrefix(t *testing.T) {
	l := fresh(t, keyed(kindred{api.Exact, 8}, kindred{api.Prefix, 8}, kindred{api.Exact, 8}), "t", 9)
	e := func(a, p uint64, bits int, b uint64) api.Entry {
		return entry(0, call("g", p), exactly(a), begins(p, bits), exactly(b))
	}
	none, one, four, all, other := e(1, 0, 0, 2), e(1, 0x80, 1, 2), e(1, 0xa0, 4, 2), e(1, 0xa5, 8, 2), e(2, 0xa5, 8, 2)
	for _, x := range []api.Entry{one, all, none, other, four} {
		checkPut(t, l, x, api.OK)
	}
	checkEvery(t, l, ns(1, 0xa5, 2), all, four, one, none)
	checkEvery(t, l, ns(1, 0xa4, 2), four, one, none)
	checkEvery(t, l, ns(1, 0xb5, 2), one, none)
	checkEvery(t, l, ns(1, 0x7f, 2), none)
	checkEvery(t, l, ns(2, 0xa5, 2), other)
	checkEvery(t, l, ns(2, 0xa5, 3))
	checkFind(t, l, ns(1, 0xa5, 2), all)
	checkFind(t, l, ns(1, 0x00, 2), none)
	checkFind(t, l, ns(3, 0xa5, 2))
	checkGroups(t, l, 4)
	checkHidden(t, l)
}

// TestExactTable: each key has one entry at most, and all have one shape.
func TestExactTable(t *testing.T) {
	s := whole()
	l := fresh(t, s, "mac", 9)
	a := entry(0, call("none"), exactly(1), api.Match{Value: most}, exactly(1))
	b := entry(0, call("hop", 1, 2, 3), exactly(1), api.Match{Value: most}, exactly(2))
	c := entry(0, call("none"), exactly(1), exactly(0), exactly(1))
	for _, e := range []api.Entry{b, a, c} {
		checkPut(t, l, e, api.OK)
	}
	checkAll(t, l, c, a, b)
	checkFind(t, l, []api.Bits{n(1), most, n(2)}, b)
	checkEvery(t, l, []api.Bits{n(1), n(0), n(1)}, c)
	checkFind(t, l, []api.Bits{n(2), most, n(2)})
	checkGroups(t, l, 1)
	checkHidden(t, l)
}

// TestOrderOfAll: as chapter 11's Order has it: Len, Value and Mask of the first match that is unlike.
func TestOrderOfAll(t *testing.T) {
	list := []api.Entry{
		inU(1, 1, 0, 9, 16777216), inU(0, 3, 2, 9, 300), inU(1, 1, 0, 9, 300), inU(0, 0, 0, 9, 3), inU(0, 0, 1, 1, 3),
		inU(0, 0, 1, 2, 3), inU(0, 1, 0, 9, 3), inU(1, 1, 0, 9, 3), inU(1, 3, 0, 9, 3), inU(255, 255, 0, 0xffff, 2), inU(0, 0, 0, 0, 1),
	}
	for turn := range list {
		l := filled(t)
		for i := range list {
			checkPut(t, l, list[(i*7+turn)%len(list)], api.OK)
		}
		checkAll(t, l, list...)
	}
}

// P14.4

func TestHidden(t *testing.T) {
	// by one of a greater priority, and by one of the same that stands ahead by its matches
	a, b := inU(2, 2, 0, 0xff, 9), inU(2, 3, 5, 9, 7)
	checkHidden(t, filled(t, a, b), b)
	c, d := inU(0, 0, 5, 9, 7), inU(1, 1, 5, 9, 7)
	checkHidden(t, filled(t, c, d), d)
	// one that covers, but stands behind, hides nothing
	checkHidden(t, filled(t, inU(2, 2, 0, 0xff, 6), b))
	checkHidden(t, filled(t, inU(2, 2, 5, 9, 7), inU(2, 2, 5, 10, 7)))
	checkHidden(t, filled(t, inU(2, 2, 6, 9, 7), inU(2, 2, 5, 9, 7)), inU(2, 2, 6, 9, 7))
	// the same matches
	checkHidden(t, filled(t, b, inU(2, 3, 5, 9, 6), inU(2, 3, 5, 9, 8), inU(2, 3, 5, 9, 1)), b, inU(2, 3, 5, 9, 6), inU(2, 3, 5, 9, 1))
	// two that cover only together
	checkHidden(t, filled(t, inU(0, 1, 0, 0xffff, 9), inU(1, 1, 0, 0xffff, 9), inU(0, 0, 0, 0xffff, 1)))
	// one that is hidden hides others, too
	x, y, z := inU(0, 0, 0, 0xffff, 9), inU(1, 1, 0, 9, 5), inU(1, 3, 3, 9, 5)
	checkHidden(t, filled(t, z, y, x), y, z)
	// ranges that reach beyond on one side, or lie apart
	checkHidden(t, filled(t, inU(0, 0, 5, 9, 9), inU(0, 0, 4, 9, 5), inU(0, 0, 5, 10, 5), inU(0, 0, 6, 8, 5), inU(0, 0, 10, 12, 5)), inU(0, 0, 6, 8, 5))
	// values that are unlike under the mask
	checkHidden(t, filled(t, inU(1, 1, 0, 9, 9), inU(0, 1, 0, 9, 3), inU(2, 3, 0, 9, 5), inU(3, 3, 0, 9, 5), inU(2, 2, 0, 9, 4)), inU(3, 3, 0, 9, 5))
}

// TestHiddenByPrefix: a prefix covers a longer one, but stands behind it.
func TestHiddenByPrefix(t *testing.T) {
	l := fresh(t, keyed(kindred{api.Prefix, 8}), "t", 9)
	for _, e := range []api.Entry{entry(0, call("g", 1), begins(0, 0)), entry(0, call("g", 1), begins(0x80, 1)), entry(0, call("g", 1), begins(0x80, 8))} {
		checkPut(t, l, e, api.OK)
	}
	checkHidden(t, l)
}

// TestGroups: the shape is, by the part's kind, nothing, Len, Mask, or Value and Mask.
func TestGroups(t *testing.T) {
	for _, c := range []struct {
		kind int
		list []api.Match
		want int
	}{
		{api.Exact, []api.Match{exactly(0), exactly(1), exactly(2), exactly(255)}, 1},
		{api.Prefix, []api.Match{begins(0, 1), begins(128, 1), begins(0, 0), begins(0, 8), begins(255, 8), begins(0, 7)}, 4},
		{api.Ternary, []api.Match{masked(0, 0), masked(0, 1), masked(1, 1), masked(0, 2), masked(3, 3), masked(1, 3), masked(0, 255)}, 5},
		{api.Range, []api.Match{between(0, 0), between(0, 1), between(1, 1), between(0, 255), between(1, 255)}, 5},
	} {
		s := keyed(kindred{c.kind, 8}, kindred{api.Exact, 8})
		priority := 0
		if ranked(s, "t") {
			priority = 1
		}
		l := fresh(t, s, "t", 99)
		for i, m := range c.list {
			checkPut(t, l, entry(priority, call("g", 1), m, exactly(uint64(i))), api.OK)
			checkPut(t, l, entry(priority, call("g", 1), m, exactly(uint64(i+1))), api.OK)
		}
		checkGroups(t, l, c.want)
		if priority == 1 {
			for i, m := range c.list {
				checkPut(t, l, entry(9, call("g", 1), m, exactly(uint64(i))), api.OK)
			}
			checkGroups(t, l, c.want) // the priority is no part of it
		}
	}
	l := filled(t, inU(1, 1, 0, 9, 1), inU(1, 1, 0, 8, 1), inU(1, 3, 0, 9, 1), inU(1, 3, 0, 8, 1), inU(0, 1, 0, 9, 7))
	checkGroups(t, l, 4)
	checkDrop(t, l, inU(1, 1, 0, 9, 1), inU(1, 1, 0, 9, 1))
	checkGroups(t, l, 4)
	checkDrop(t, l, inU(0, 1, 0, 9, 7), inU(0, 1, 0, 9, 7))
	checkGroups(t, l, 3)
}

// TestAllParts: a key of as many parts as there may be, of which each counts.
func TestAllParts(t *testing.T) {
	kinds := []kindred{{api.Exact, 8}, {api.Ternary, 8}, {api.Range, 8}, {api.Ternary, 128}, {api.Exact, 1}, {api.Range, 64}, {api.Exact, 65}, {api.Range, 8}}
	s := keyed(kinds...)
	e := entry(5, call("g", 1), exactly(3), masked(1, 1), between(4, 6), masked(2, 2), exactly(1), between(1, 9), exactly(9), between(7, 7))
	hit := ns(3, 5, 5, 6, 1, 9, 9, 7)
	l := fresh(t, s, "t", 99)
	checkPut(t, l, e, api.OK)
	checkFind(t, l, hit, e)
	for i, x := range ns(2, 4, 7, 5, 0, 10, 8, 8) {
		key := slices.Clone(hit)
		key[i] = x
		checkFind(t, l, key)
	}
	for i, m := range []api.Match{exactly(4), masked(0, 1), between(4, 7), masked(0, 0), exactly(0), between(0, 9), exactly(8), between(6, 7)} {
		other := copied(e)
		other.Match[i] = m
		checkGet(t, l, other)
		checkPut(t, l, other, api.OK)
		checkGet(t, l, other, other)
	}
	checkGroups(t, l, 5)
}

// P14.5

func TestCopy(t *testing.T) {
	x, y, z := inU(2, 3, 5, 9, 7), inU(2, 3, 5, 9, 6), inU(0, 0, 0, 0xffff, 1)
	l := fresh(t, small(), "u", 3)
	for _, e := range []api.Entry{x, y, z} {
		checkPut(t, l, e, api.OK)
	}
	c := l.Copy()
	checkAll(t, c, x, y, z)
	checkGroups(t, c, 2)
	checkPut(t, c, inU(1, 1, 1, 1, 1), api.ErrFull) // the same most
	checkDrop(t, c, x, x)
	checkPut(t, c, inU(1, 1, 1, 1, 1), api.OK)
	checkAll(t, l, x, y, z)
	checkGroups(t, l, 2)
	checkFind(t, l, ns(6, 9), x)
	checkDrop(t, l, y, y)
	checkDrop(t, l, z, z)
	checkAll(t, c, y, z, inU(1, 1, 1, 1, 1))
	checkFind(t, c, ns(6, 9), y)
	checkGroups(t, c, 3)
	l.Clear()
	checkAll(t, c, y, z, inU(1, 1, 1, 1, 1))
	checkAll(t, l)
	c.Clear()
	checkPut(t, l, x, api.OK)
	checkAll(t, c)
	checkAll(t, l, x)
	checkAll(t, fresh(t, small(), "u", 3).Copy())
}

// TestCopyOfCalls: a Set of the one is not seen in the other.
func TestCopyOfCalls(t *testing.T) {
	e := func(p uint64) api.Entry { return entry(5, call("g", p), masked(1, 1)) }
	l := fresh(t, keyed(kindred{api.Ternary, 8}), "t", 3)
	checkPut(t, l, e(1), api.OK)
	c := l.Copy()
	checkSet(t, c, e(2), api.OK)
	checkAll(t, l, e(1))
	checkAll(t, c, e(2))
	checkSet(t, l, e(3), api.OK)
	checkAll(t, l, e(3))
	checkAll(t, c, e(2))
}

// P14.6

// TestBehindOneAnother: Put and Drop of one, and calls that are refused, change nothing.
func TestBehindOneAnother(t *testing.T) {
	x, y, z := inU(2, 3, 5, 9, 7), inU(2, 3, 5, 9, 6), inU(0, 0, 0, 0xffff, 1)
	l := fresh(t, small(), "u", 4)
	for _, e := range []api.Entry{x, y, z} {
		checkPut(t, l, e, api.OK)
	}
	for _, e := range []api.Entry{inU(2, 3, 5, 9, 99), inU(0, 1, 0, 1, 8), inU(0, 0, 0, 0xffff, 8), inU(2, 3, 5, 9, 5), inU(6, 7, 8, 9, 7)} {
		checkPut(t, l, e, api.OK)
		checkDrop(t, l, e, e)
		checkSet(t, l, e, api.ErrAbsent)
		checkPut(t, l, x, api.ErrDup)
		checkAll(t, l, x, y, z)
		checkGroups(t, l, 2)
		checkHidden(t, l, y)
		checkFind(t, l, ns(6, 9), x)
		checkFind(t, l, ns(7, 9), z)
	}
}
