package trie_test

import (
	"iter"
	"slices"
	"testing"

	"turnout/api"
	"turnout/trie"
)

// R5, of All and of Under

func TestIteratorsAreNeverNil(t *testing.T) {
	var none *trie.Trie[int]
	for what, x := range map[string]*trie.Trie[int]{"empty": fresh[int](t, 8, 1), "some": filled(t, "1"), "nil": none} {
		if x.All() == nil || x.Under(of("1", 8)) == nil || x.Under(trie.Prefix{Len: 9}) == nil || x.Under(trie.Prefix{Len: -1}) == nil {
			t.Errorf("%s: no iterator", what)
		}
	}
}

// ways are the iterators over what begins with 10.
func ways(x *trie.Trie[int]) map[string]iter.Seq2[trie.Prefix, int] {
	return map[string]iter.Seq2[trie.Prefix, int]{"All": x.All(), "Under": x.Under(of("10", 8))}
}

// five is a trie of five that begin with 10, two forks among them (1000* and 1011*).
func five(t *testing.T) *trie.Trie[int] {
	t.Helper()
	return filled(t, "10", "10000", "10001", "10110", "10111")
}

func TestLeftEarly(t *testing.T) {
	for what, all := range ways(five(t)) {
		want := collected(t, all, 8)
		if len(want) != 5 {
			t.Fatalf("%s: %v", what, want)
		}
		for n := 1; n <= 5; n++ {
			var got []told
			for p, v := range all {
				got = append(got, told{written(t, p, 8), v})
				if len(got) == n {
					break
				}
			}
			if !slices.Equal(got, want[:n]) {
				t.Errorf("%s, left at %d: %v", what, n, got)
			}
		}
		checkTold(t, all, want...)
	}
}

// TestTellsNoMore: once it is left, nothing is told.
func TestTellsNoMore(t *testing.T) {
	for what, all := range ways(five(t)) {
		for n := 1; n <= 6; n++ {
			many := 0
			all(func(trie.Prefix, int) bool {
				many++
				return many < n
			})
			if many != min(n, 5) {
				t.Errorf("%s, left at %d: %d were told", what, n, many)
			}
		}
	}
}

// changed are what may be done to the trie of five while a range over it goes on.
func changed() map[string]func(x *trie.Trie[int]) {
	put := func(x *trie.Trie[int], list ...string) {
		for i, bits := range list {
			x.Put(of(bits, 8), 50+i)
		}
	}
	drop := func(x *trie.Trie[int], list ...string) {
		for _, bits := range list {
			x.Drop(of(bits, 8))
		}
	}
	return map[string]func(x *trie.Trie[int]){
		"Put above":       func(x *trie.Trie[int]) { put(x, "", "1") },
		"Put at forks":    func(x *trie.Trie[int]) { put(x, "1000", "1011") },
		"Put between":     func(x *trie.Trie[int]) { put(x, "100", "101", "1001", "1010") },
		"Put below":       func(x *trie.Trie[int]) { put(x, "10000111", "10001000", "10110000", "10111111", "1000000") },
		"Put elsewhere":   func(x *trie.Trie[int]) { put(x, "0", "11", "11111111") },
		"Drop the top":    func(x *trie.Trie[int]) { drop(x, "10") },
		"Drop the last":   func(x *trie.Trie[int]) { drop(x, "10111") },
		"Drop the first":  func(x *trie.Trie[int]) { drop(x, "10000") },
		"Drop a fork":     func(x *trie.Trie[int]) { drop(x, "10000", "10001") },
		"Drop all":        func(x *trie.Trie[int]) { drop(x, "10", "10000", "10001", "10110", "10111") },
		"Drop and Put":    func(x *trie.Trie[int]) { drop(x, "10001", "10110"); put(x, "10110", "10001") },
		"Clear":           func(x *trie.Trie[int]) { x.Clear() },
		"Clear and Put":   func(x *trie.Trie[int]) { x.Clear(); put(x, "10001", "10111111", "11") },
		"Clear of a copy": func(x *trie.Trie[int]) { x.Copy().Clear() },
		"Set": func(x *trie.Trie[int]) {
			for i, bits := range []string{"10", "10000", "10001", "10110", "10111"} {
				x.Set(of(bits, 8), 90+i)
			}
		},
	}
}

// TestAsItBegan: a range tells what there was when it began, whatever is done meanwhile, at whatever place; the next one tells what there is then.
func TestAsItBegan(t *testing.T) {
	want := []told{{"10", 0}, {"10000", 1}, {"10001", 2}, {"10110", 3}, {"10111", 4}}
	for what, change := range changed() {
		for at := range 5 {
			for _, way := range []string{"All", "Under"} {
				x, same := five(t), five(t)
				all := ways(x)[way]
				var got []told
				for p, v := range all {
					if len(got) == at {
						change(x)
					}
					got = append(got, told{written(t, p, 8), v})
				}
				if !slices.Equal(got, want) {
					t.Errorf("%s, %s at %d: %v", way, what, at, got)
				}
				change(same)
				checkTold(t, all, collected(t, ways(same)[way], 8)...)
				checkMany(t, x, same.Len(), same.Nodes())
			}
		}
	}
}

// TestFromTheRange: what is done between the call and the range is told.
func TestFromTheRange(t *testing.T) {
	for what, change := range changed() {
		x, same := five(t), five(t)
		all := ways(x)
		change(x)
		change(same)
		for way, seq := range ways(same) {
			if got := collected(t, all[way], 8); !slices.Equal(got, collected(t, seq, 8)) {
				t.Errorf("%s, %s: %v", way, what, got)
			}
		}
	}
	x := fresh[int](t, 8, 2)
	all, under, elsewhere := x.All(), x.Under(of("1", 8)), x.Under(of("0", 8))
	checkTold(t, all)
	checkPut(t, x, of("10", 8), 1, api.OK)
	checkTold(t, all, told{"10", 1})
	checkTold(t, under, told{"10", 1})
	checkTold(t, elsewhere)
	x.Clear()
	checkTold(t, all)
	checkTold(t, under)
	checkPut(t, x, of("01", 8), 2, api.OK)
	checkTold(t, all, told{"01", 2})
	checkTold(t, under)
	checkTold(t, elsewhere, told{"01", 2})
}

// TestWithinItself: ranges within one another, over one iterator; what was changed between them is told by the inner one alone.
func TestWithinItself(t *testing.T) {
	x := filled(t, "1", "101", "110")
	all := x.All()
	var outer []told
	for p, v := range all {
		bits := written(t, p, 8)
		outer = append(outer, told{bits, v})
		checkPut(t, x, of(bits+"0", 8), 10*v, api.OK)
		checkTold(t, all, collected(t, x.All(), 8)...)
		if n := len(collected(t, all, 8)); n != 3+len(outer) {
			t.Errorf("within %s: %d", bits, n)
		}
	}
	if !slices.Equal(outer, []told{{"1", 0}, {"101", 1}, {"110", 2}}) {
		t.Errorf("the outer one: %v", outer)
	}
	checkTold(t, all, told{"1", 0}, told{"10", 0}, told{"101", 1}, told{"1010", 10}, told{"110", 2}, told{"1100", 20})
}

// TestByTurns: two ranges over one iterator go on by turns, each with what there was when it began.
func TestByTurns(t *testing.T) {
	x := filled(t, "1", "10", "100", "11")
	for way, all := range map[string]iter.Seq2[trie.Prefix, int]{"All": x.All(), "Under": x.Under(of("1", 8))} {
		x.Clear()
		for i, bits := range []string{"1", "10", "100", "11"} {
			checkPut(t, x, of(bits, 8), i, api.OK)
		}
		one, stopOne := iter.Pull2(all)
		two, stopTwo := iter.Pull2(all)
		defer stopOne()
		defer stopTwo()
		next := func(pull func() (trie.Prefix, int, bool), bits string, v int, there bool) {
			t.Helper()
			want := trie.Prefix{}
			if there {
				want = of(bits, 8)
			}
			if p, got, is := pull(); p != want || got != v || is != there {
				t.Errorf("%s: %v %d %v, not %v %d %v", way, p, got, is, want, v, there)
			}
		}
		next(one, "1", 0, true)
		next(one, "10", 1, true)
		checkDrop(t, x, of("100", 8), 2, true)
		checkSet(t, x, of("11", 8), 9, api.OK)
		next(two, "1", 0, true)
		x.Clear()
		next(one, "100", 2, true)
		next(two, "10", 1, true)
		next(two, "11", 9, true)
		next(one, "11", 3, true)
		next(one, "", 0, false)
		next(two, "", 0, false)
		checkTold(t, all)
	}
}

// TestThrownOutOf: a range that ends by a panic leaves the trie and the iterator as they were.
func TestThrownOutOf(t *testing.T) {
	x := filled(t, "1", "10", "11")
	all := x.All()
	func() {
		defer func() {
			if r := recover(); r != "out" {
				t.Errorf("recovered %v", r)
			}
		}()
		for p := range all {
			if p.Len == 2 {
				panic("out")
			}
		}
	}()
	checkTold(t, all, told{"1", 0}, told{"10", 1}, told{"11", 2})
	checkPut(t, x, of("0", 8), 3, api.OK)
	checkTold(t, all, told{"0", 3}, told{"1", 0}, told{"10", 1}, told{"11", 2})
}
