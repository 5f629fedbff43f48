package exact_test

import (
	"iter"
	"slices"
	"strconv"
	"testing"

	"turnout/api"
	"turnout/exact"
)

// P12.3, R5

// TestAllByBytes: by rising texts, byte by byte, the shorter one first; in whatever order they came.
func TestAllByBytes(t *testing.T) {
	keys := oddTexts()
	slices.Sort(keys)
	m := fresh[int](t, api.MaxCapacity)
	for i := range keys {
		at := (i*7 + 3) % len(keys)
		checkPut(t, m, keys[at], at, api.OK)
	}
	var want []held
	for i, key := range keys {
		want = append(want, held{key, i})
	}
	checkAll(t, m, want...)

	m = filled(t, 9, "b", "\xff", "a\x00", "", "aa", "\x80", "B", "a", "ä")
	checkAll(t, m, held{"", 3}, held{"B", 6}, held{"a", 7}, held{"a\x00", 2}, held{"aa", 4}, held{"b", 0}, held{"\x80", 5}, held{"ä", 8}, held{"\xff", 1})
}

// TestAllOfMany: all sizes up to some hundred, and the greatest one.
func TestAllOfMany(t *testing.T) {
	for _, n := range append(slices.Collect(counted(300)), 1000, api.MaxCapacity) {
		m := fresh[int](t, api.MaxCapacity)
		want := make([]held, n)
		for i := range n {
			want[i] = held{"k" + strconv.Itoa(1000000+i*i%99991*7), i}
			checkPut(t, m, want[i].key, i, api.OK)
		}
		slices.SortFunc(want, func(a, b held) int {
			if a.key < b.key {
				return -1
			}
			return 1
		})
		checkAll(t, m, want...)
	}
}

// counted are the numbers below n.
func counted(n int) iter.Seq[int] {
	return func(yield func(int) bool) {
		for i := range n {
			if !yield(i) {
				return
			}
		}
	}
}

func TestAllIsNeverNil(t *testing.T) {
	empty := fresh[int](t, 1)
	full := filled(t, 1, "a")
	var none *exact.Map[int]
	for what, m := range map[string]*exact.Map[int]{"empty": empty, "full": full, "nil": none} {
		if m.All() == nil {
			t.Errorf("%s: no iterator", what)
		}
	}
}

func TestAllLeftEarly(t *testing.T) {
	m := filled(t, 9, "a", "b", "c", "d", "e")
	all := m.All()
	want := collected(all)
	for n := 1; n <= 5; n++ {
		var got []held
		for key, v := range all {
			got = append(got, held{key, v})
			if len(got) == n {
				break
			}
		}
		if !slices.Equal(got, want[:n]) {
			t.Errorf("left at %d: %v", n, got)
		}
	}
	checkTold(t, all, want...)
}

// TestAllTellsNoMore: once it is left, nothing is told.
func TestAllTellsNoMore(t *testing.T) {
	m := filled(t, 9, "a", "b", "c")
	for n := 1; n <= 4; n++ {
		told := 0
		m.All()(func(string, int) bool {
			told++
			return told < n
		})
		if told != min(n, 3) {
			t.Errorf("left at %d: %d were told", n, told)
		}
	}
}

// changed are what may be done to a map of "a" to "e" while a range over it goes on.
func changed() map[string]func(m *exact.Map[int]) {
	return map[string]func(m *exact.Map[int]){
		"Put behind": func(m *exact.Map[int]) { m.Put("x", 9) },
		"Put ahead":  func(m *exact.Map[int]) { m.Put("", 9) },
		"Put next":   func(m *exact.Map[int]) { m.Put("bb", 9) },
		"many Puts": func(m *exact.Map[int]) {
			for i := range 100 {
				m.Put("c"+strconv.Itoa(i), i)
			}
		},
		"Set": func(m *exact.Map[int]) {
			for _, key := range []string{"a", "b", "c", "d", "e"} {
				m.Set(key, 50)
			}
		},
		"Drop behind": func(m *exact.Map[int]) { m.Drop("e") },
		"Drop next":   func(m *exact.Map[int]) { m.Drop("c") },
		"Drop ahead":  func(m *exact.Map[int]) { m.Drop("a") },
		"Drop all": func(m *exact.Map[int]) {
			for _, key := range []string{"a", "b", "c", "d", "e"} {
				m.Drop(key)
			}
		},
		"Drop and Put": func(m *exact.Map[int]) { m.Drop("c"); m.Put("c", 60); m.Drop("d"); m.Put("cc", 61) },
		"Clear":        func(m *exact.Map[int]) { m.Clear() },
		"Clear and Puts": func(m *exact.Map[int]) {
			m.Clear()
			m.Put("c", 70)
			m.Put("e", 71)
		},
		"Copy": func(m *exact.Map[int]) { m.Copy().Clear() },
	}
}

// TestAllAsItBegan: a range tells what there was when it began, whatever is done meanwhile, at whatever place; the next one tells what there is then.
func TestAllAsItBegan(t *testing.T) {
	want := []held{{"a", 0}, {"b", 1}, {"c", 2}, {"d", 3}, {"e", 4}}
	for what, change := range changed() {
		for at := range 5 {
			m, same := filled(t, 200, "a", "b", "c", "d", "e"), filled(t, 200, "a", "b", "c", "d", "e")
			all := m.All()
			var got []held
			for key, v := range all {
				if len(got) == at {
					change(m)
				}
				got = append(got, held{key, v})
			}
			if !slices.Equal(got, want) {
				t.Errorf("%s at %d: %v", what, at, got)
			}
			change(same)
			checkTold(t, all, collected(same.All())...)
			checkTold(t, m.All(), collected(same.All())...)
			checkLen(t, m, same.Len())
		}
	}
}

// TestAllFromTheRange: what is done between All and the range is told.
func TestAllFromTheRange(t *testing.T) {
	for what, change := range changed() {
		m, same := filled(t, 200, "a", "b", "c", "d", "e"), filled(t, 200, "a", "b", "c", "d", "e")
		all := m.All()
		change(m)
		change(same)
		if got := collected(all); !slices.Equal(got, collected(same.All())) {
			t.Errorf("%s: %v", what, some(got))
		}
	}
	m := fresh[int](t, 2)
	all := m.All()
	checkTold(t, all)
	checkPut(t, m, "a", 1, api.OK)
	checkTold(t, all, held{"a", 1})
	m.Clear()
	checkTold(t, all)
	checkPut(t, m, "b", 2, api.OK)
	checkTold(t, all, held{"b", 2})
}

// TestAllWithinItself: ranges within one another, over one iterator and over two; what was changed between them is told by the inner one alone.
func TestAllWithinItself(t *testing.T) {
	m := filled(t, 100, "a", "b", "c")
	all := m.All()
	var outer []held
	for key, v := range all {
		outer = append(outer, held{key, v})
		checkPut(t, m, key+"x", 10*v, api.OK)
		checkTold(t, all, collected(m.All())...)
		if n := len(collected(all)); n != 3+len(outer) {
			t.Errorf("within %q: %d", key, n)
		}
	}
	if !slices.Equal(outer, []held{{"a", 0}, {"b", 1}, {"c", 2}}) {
		t.Errorf("the outer one: %v", outer)
	}
	checkTold(t, all, held{"a", 0}, held{"ax", 0}, held{"b", 1}, held{"bx", 10}, held{"c", 2}, held{"cx", 20})
}

// TestAllSideBySide: two ranges over one iterator go on by turns, each with what there was when it began.
func TestAllSideBySide(t *testing.T) {
	m := filled(t, 100, "a", "b", "c", "d")
	all := m.All()
	one, stopOne := iter.Pull2(all)
	two, stopTwo := iter.Pull2(all)
	defer stopOne()
	defer stopTwo()
	next := func(pull func() (string, int, bool), key string, v int, there bool) {
		t.Helper()
		if k, got, is := pull(); k != key || got != v || is != there {
			t.Errorf("%q %d %v, not %q %d %v", k, got, is, key, v, there)
		}
	}
	next(one, "a", 0, true)
	next(one, "b", 1, true)
	checkDrop(t, m, "c", 2, true)
	checkSet(t, m, "d", 9, api.OK)
	next(two, "a", 0, true)
	m.Clear()
	next(one, "c", 2, true)
	next(two, "b", 1, true)
	next(two, "d", 9, true)
	next(one, "d", 3, true)
	next(one, "", 0, false)
	next(two, "", 0, false)
	checkTold(t, all)
}

// TestAllThrownOutOf: a range that ends by a panic leaves the map and the iterator as they were.
func TestAllThrownOutOf(t *testing.T) {
	m := filled(t, 9, "a", "b", "c")
	all := m.All()
	func() {
		defer func() {
			if r := recover(); r != "out" {
				t.Errorf("recovered %v", r)
			}
		}()
		for key := range all {
			if key == "b" {
				panic("out")
			}
		}
	}()
	checkTold(t, all, held{"a", 0}, held{"b", 1}, held{"c", 2})
	checkPut(t, m, "d", 3, api.OK)
	checkTold(t, all, held{"a", 0}, held{"b", 1}, held{"c", 2}, held{"d", 3})
}
