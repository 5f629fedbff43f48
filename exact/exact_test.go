package exact_test

import (
	"math"
	"strconv"
	"strings"
	"testing"

	"turnout/api"
	"turnout/exact"
)

// P12.1

func TestNew(t *testing.T) {
	for _, most := range []int{math.MinInt, math.MinInt32, -4096, -2, -1, 0, 4097, 4098, 8192, 1 << 16, math.MaxInt32, math.MaxInt} {
		if m, e := exact.New[string](most); m != nil || e != api.ErrArg {
			t.Errorf("New(%d): %v %d", most, m, e)
		}
	}
	for most := 1; most <= api.MaxCapacity; most++ {
		m := fresh[int](t, most)
		checkLen(t, m, 0)
		checkAll(t, m)
		checkGet(t, m, "", 0, false)
	}
}

// TestMost: as many as most says, of all that it may say, and no more.
func TestMost(t *testing.T) {
	for _, most := range []int{1, 2, 3, 4, 5, 6, 7, 8, 9, 15, 16, 17, 31, 32, 33, 127, 128, 129, 1000, 2047, 2048, 2049, 4095, 4096} {
		m := fresh[int](t, most)
		for i := range most {
			checkPut(t, m, strconv.Itoa(i), i, api.OK)
			checkLen(t, m, i+1)
		}
		for _, key := range []string{"", "x", "-1", strconv.Itoa(most)} {
			checkPut(t, m, key, 1, api.ErrFull)
			checkGet(t, m, key, 0, false)
			checkSet(t, m, key, 1, api.ErrAbsent)
			checkDrop(t, m, key, 0, false)
		}
		checkLen(t, m, most)
		// It is there already: that is said of a full one, too.
		for _, i := range []int{0, most / 2, most - 1} {
			checkPut(t, m, strconv.Itoa(i), -1, api.ErrDup)
			checkGet(t, m, strconv.Itoa(i), i, true)
		}
	}
}

// P12.2

// oddTexts are texts at all ends.
func oddTexts() []string {
	return []string{"", "\x00", "\x00\x00", " ", "a", "A", "a\x00", "\x00a", "aa", "ab", "b", "\x7f", "\x80", "\xff", "\xff\xff", "\xfe\xff", "ä", "\xc3", "a\n", "日本", strings.Repeat("a", 1<<16), strings.Repeat("a", 1<<16) + "b", strings.Repeat("\x00", 1<<20)}
}

// TestAnyText: a key is any text; each is one of its own.
func TestAnyText(t *testing.T) {
	keys := oddTexts()
	m := fresh[int](t, len(keys))
	for i, key := range keys {
		checkGet(t, m, key, 0, false)
		checkSet(t, m, key, 7, api.ErrAbsent)
		checkDrop(t, m, key, 0, false)
		checkPut(t, m, key, i+1, api.OK)
		checkPut(t, m, key, 0, api.ErrDup)
		checkGet(t, m, key, i+1, true)
		checkLen(t, m, i+1)
	}
	checkPut(t, m, "one more", 1, api.ErrFull)
	for i, key := range keys {
		checkGet(t, m, key, i+1, true)
		checkSet(t, m, key, -i-1, api.OK)
		checkGet(t, m, key, -i-1, true)
	}
	for i, key := range keys {
		checkDrop(t, m, key, -i-1, true)
		checkGet(t, m, key, 0, false)
		checkDrop(t, m, key, 0, false)
		checkSet(t, m, key, 1, api.ErrAbsent)
		checkLen(t, m, len(keys)-i-1)
		for j, other := range keys[i+1:] {
			checkGet(t, m, other, -(i+1+j)-1, true)
		}
	}
}

// TestSetIsNoPut: it neither puts in nor needs room.
func TestSetIsNoPut(t *testing.T) {
	m := filled(t, 2, "a", "b")
	checkSet(t, m, "a", 9, api.OK)
	checkSet(t, m, "b", 8, api.OK)
	checkSet(t, m, "a", 9, api.OK)
	checkSet(t, m, "c", 7, api.ErrAbsent)
	checkAll(t, m, held{"a", 9}, held{"b", 8})
	checkDrop(t, m, "a", 9, true)
	checkSet(t, m, "a", 1, api.ErrAbsent)
	checkAll(t, m, held{"b", 8})
}

// TestZeroThings: a zero thing is there as any other one is.
func TestZeroThings(t *testing.T) {
	m := fresh[int](t, 1)
	checkPut(t, m, "a", 0, api.OK)
	checkGet(t, m, "a", 0, true)
	checkPut(t, m, "a", 1, api.ErrDup)
	checkAll(t, m, held{"a", 0})
	checkSet(t, m, "a", 0, api.OK)
	checkDrop(t, m, "a", 0, true)
	checkDrop(t, m, "a", 0, false)

	p := fresh[*int](t, 1)
	checkPut(t, p, "", nil, api.OK)
	checkGet(t, p, "", nil, true)
	checkLen(t, p, 1)
}

// TestClear: nothing is there, what most says stays, and it can be filled again.
func TestClear(t *testing.T) {
	for _, most := range []int{1, 2, 5, 100, api.MaxCapacity} {
		m := fresh[int](t, most)
		m.Clear()
		for round := range 3 {
			for i := range most {
				checkPut(t, m, strconv.Itoa(i), i+round, api.OK)
			}
			checkPut(t, m, "x", 0, api.ErrFull)
			m.Clear()
			checkLen(t, m, 0)
			checkAll(t, m)
			for i := range most {
				checkGet(t, m, strconv.Itoa(i), 0, false)
			}
			checkSet(t, m, "0", 0, api.ErrAbsent)
			checkDrop(t, m, "0", 0, false)
			m.Clear()
		}
	}
}

// P12.4

// TestCopy: the same things, the same most, and neither sees what is done to the other.
func TestCopy(t *testing.T) {
	keys := []string{"a", "b", "c", "d", "e", "f", "g"}
	for n := range len(keys) + 1 {
		for _, most := range []int{n, n + 1, 50} {
			if most == 0 {
				continue
			}
			changes := map[string]func(m *exact.Map[int], d model){
				"nothing": func(m *exact.Map[int], d model) {},
				"Put":     func(m *exact.Map[int], d model) { d.do(t, m, opPut, "x", 9) },
				"Set": func(m *exact.Map[int], d model) {
					for _, key := range keys {
						d.do(t, m, opSet, key, 70)
					}
				},
				"Drop": func(m *exact.Map[int], d model) {
					for _, key := range keys[:3] {
						d.do(t, m, opDrop, key, 0)
					}
				},
				"Clear":           func(m *exact.Map[int], d model) { d.do(t, m, opClear, "", 0) },
				"Clear and a Put": func(m *exact.Map[int], d model) { d.do(t, m, opClear, "", 0); d.do(t, m, opPut, "a", 5) },
				"Puts": func(m *exact.Map[int], d model) {
					for i := range 60 {
						d.do(t, m, opPut, strconv.Itoa(i), i)
					}
				},
			}
			for what, change := range changes {
				for _, first := range []bool{true, false} {
					m, d := filled(t, most, keys[:n]...), newModel(most)
					for i, key := range keys[:n] {
						d.put(key, i)
					}
					c, dc := m.Copy(), d.copied()
					if c == nil || c == m {
						t.Fatalf("Copy is %p of %p", c, m)
					}
					d.check(t, c, keys)
					if first {
						change(m, d)
					} else {
						change(c, dc)
					}
					d.check(t, m, keys)
					dc.check(t, c, keys)
					fillUp(t, c, dc)
					d.check(t, m, keys)
					fillUp(t, m, d)
					d.check(t, m, keys)
					dc.check(t, c, keys)
					if t.Failed() {
						t.Fatalf("%d of %d, %s, the first one: %v", n, most, what, first)
					}
				}
			}
		}
	}
}

// fillUp puts things in until there is no room, and one more.
func fillUp(t *testing.T, m *exact.Map[int], d model) {
	t.Helper()
	for i := 0; len(d.held) < d.most; i++ {
		d.do(t, m, opPut, "fill"+strconv.Itoa(i), i)
	}
	checkPut(t, m, "too many", 1, api.ErrFull)
}

// TestCopyOfCopy: copies are maps as all others are.
func TestCopyOfCopy(t *testing.T) {
	m := filled(t, 3, "a", "b")
	c := m.Copy().Copy()
	checkPut(t, c, "c", 5, api.OK)
	checkPut(t, c, "d", 5, api.ErrFull)
	c2 := c.Copy()
	c.Clear()
	checkAll(t, m, held{"a", 0}, held{"b", 1})
	checkAll(t, c)
	checkAll(t, c2, held{"a", 0}, held{"b", 1}, held{"c", 5})
	checkPut(t, c2, "d", 5, api.ErrFull)
}

// P12.5

func TestNilMap(t *testing.T) {
	var m *exact.Map[int]
	for range 2 {
		for _, key := range oddTexts() {
			checkPut(t, m, key, 1, api.ErrArg)
			checkSet(t, m, key, 1, api.ErrArg)
			checkDrop(t, m, key, 0, false)
			checkGet(t, m, key, 0, false)
		}
		checkLen(t, m, 0)
		all := m.All()
		for range 2 {
			checkTold(t, all)
		}
		m.Clear()
		if c := m.Copy(); c != nil {
			t.Errorf("Copy: %v", c)
		}
	}
}

// P12.7

// TestRoomAgain: a map that was full, and from which one was dropped, has room for one.
func TestRoomAgain(t *testing.T) {
	for _, most := range []int{1, 2, 3, 4, 5, 8, 9, 64, 1000, api.MaxCapacity} {
		m := fresh[int](t, most)
		for i := range most {
			checkPut(t, m, strconv.Itoa(i), i, api.OK)
		}
		for _, i := range []int{0, most - 1, most / 2} {
			key := strconv.Itoa(i)
			checkPut(t, m, "x", 1, api.ErrFull)
			checkDrop(t, m, "none", 0, false)
			checkPut(t, m, "x", 1, api.ErrFull)
			checkDrop(t, m, key, i, true)
			checkPut(t, m, "x", 1, api.OK)
			checkPut(t, m, key, i, api.ErrFull)
			checkDrop(t, m, "x", 1, true)
			checkPut(t, m, key, i, api.OK)
		}
		checkLen(t, m, most)
	}
}

// TestRefusedChangesNothing: what is refused leaves all as it was.
func TestRefusedChangesNothing(t *testing.T) {
	m := filled(t, 4, "a", "b", "c", "d")
	want := []held{{"a", 0}, {"b", 1}, {"c", 2}, {"d", 3}}
	for range 3 {
		checkPut(t, m, "a", 9, api.ErrDup)
		checkPut(t, m, "e", 9, api.ErrFull)
		checkSet(t, m, "e", 9, api.ErrAbsent)
		checkDrop(t, m, "e", 0, false)
		checkAll(t, m, want...)
		checkLen(t, m, 4)
	}
	checkDrop(t, m, "d", 3, true)
	checkPut(t, m, "a", 9, api.ErrDup)
	checkSet(t, m, "d", 9, api.ErrAbsent)
	checkAll(t, m, want[:3]...)
}
