package trie_test

import (
	"fmt"
	"maps"
	"math/rand"
	"slices"
	"strings"
	"testing"

	"turnout/api"
	"turnout/trie"
)

// A model keeps things under prefixes that are written as their bits; it goes by the chapter's words.
type model struct {
	width, most int
	things      map[string]int
}

func begins(p, q string) bool { return strings.HasPrefix(q, p) }

func (m *model) put(bits string, v int) api.Errno {
	if _, there := m.things[bits]; there {
		return api.ErrDup
	}
	if len(m.things) == m.most {
		return api.ErrFull
	}
	m.things[bits] = v
	return api.OK
}

func (m *model) set(bits string, v int) api.Errno {
	if _, there := m.things[bits]; !there {
		return api.ErrAbsent
	}
	m.things[bits] = v
	return api.OK
}

func (m *model) drop(bits string) (int, bool) {
	v, there := m.things[bits]
	delete(m.things, bits)
	return v, there
}

// every are the prefixes of a value, written as all its bits, that something is kept under.
func (m *model) every(a string) []string {
	var list []string
	for n := range m.width + 1 {
		if _, there := m.things[a[:n]]; there {
			list = append(list, a[:n])
		}
	}
	return list
}

// ahead is the order of prefixes: one ahead of those that it begins, else by the values.
func (m *model) ahead(p, q string) bool {
	if begins(p, q) || begins(q, p) {
		return len(p) < len(q)
	}
	all := func(s string) string { return s + strings.Repeat("0", m.width-len(s)) }
	return all(p) < all(q)
}

// under are those that a prefix begins, in their order.
func (m *model) under(bits string) []told {
	var list []told
	for p, v := range m.things {
		if begins(bits, p) {
			list = append(list, told{p, v})
		}
	}
	slices.SortFunc(list, func(a, b told) int {
		if m.ahead(a.bits, b.bits) {
			return -1
		}
		return 1
	})
	return list
}

// nodes: those that are kept, and each prefix under which nothing is, but which begins two whose next bits are unlike.
func (m *model) nodes() int {
	forks := map[string]int{}
	for p := range m.things {
		for q := range m.things {
			n := 0
			for n < min(len(p), len(q)) && p[n] == q[n] {
				n++
			}
			if _, there := m.things[p[:n]]; n < min(len(p), len(q)) && !there {
				forks[p[:n]] = 1
			}
		}
	}
	return len(m.things) + len(forks)
}

// checkSame holds all that a trie tells against the model: of these prefixes and values.
func checkSame(t *testing.T, x *trie.Trie[int], m *model, prefixes, values []string) {
	t.Helper()
	checkMany(t, x, len(m.things), m.nodes())
	if x.Len() > 0 && x.Nodes() >= 2*x.Len() {
		t.Errorf("%d nodes of %d", x.Nodes(), x.Len())
	}
	if got, want := collected(t, x.All(), m.width), m.under(""); !slices.Equal(got, want) {
		t.Errorf("All is %v, not %v", some(got), some(want))
	}
	for _, bits := range prefixes {
		p := of(bits, m.width)
		v, there := m.things[bits]
		checkGet(t, x, p, v, there)
		if got, want := collected(t, x.Under(p), m.width), m.under(bits); !slices.Equal(got, want) {
			t.Errorf("Under(%s) is %v, not %v", bits, some(got), some(want))
		}
	}
	for _, all := range values {
		a, list := number(all, m.width), m.every(all)
		var got []string
		for _, p := range x.Every(a) {
			got = append(got, written(t, p, m.width))
		}
		if !slices.Equal(got, list) {
			t.Errorf("Every(%s) is %v, not %v", all, some(got), some(list))
		}
		if len(list) == 0 {
			checkFind(t, x, a, trie.Prefix{}, 0, false)
		} else {
			longest := list[len(list)-1]
			checkFind(t, x, a, of(longest, m.width), m.things[longest], true)
		}
	}
}

// allBits are all texts of bits of these lengths.
func allBits(from, to int) []string {
	var list []string
	for n := from; n <= to; n++ {
		for i := range 1 << n {
			list = append(list, fmt.Sprintf("%0*b", n, i)[:n])
		}
	}
	return list
}

// TestAllSets: each set of prefixes of the widths 1 to 3, in one order and in the other; and what is left of each, if one is dropped.
func TestAllSets(t *testing.T) {
	for width := 1; width <= 3; width++ {
		prefixes, values := allBits(0, width), allBits(width, width)
		nodes := make([]int, 1<<len(prefixes))
		tries := make([]*trie.Trie[int], len(nodes))
		for set := range nodes {
			m := &model{width, 15, map[string]int{}}
			x, y := fresh[int](t, width, 15), fresh[int](t, width, 15)
			for i, bits := range prefixes {
				if set>>i&1 == 1 {
					m.put(bits, i)
					x.Put(of(bits, width), i)
				}
				if j := len(prefixes) - 1 - i; set>>j&1 == 1 {
					y.Put(of(prefixes[j], width), j)
				}
			}
			nodes[set], tries[set] = m.nodes(), x
			checkSame(t, x, m, prefixes, values)
			checkSame(t, y, m, prefixes, values)
			for i, bits := range prefixes {
				if less := set &^ (1 << i); less < set {
					c := x.Copy()
					checkDrop(t, c, of(bits, width), i, true)
					checkMany(t, c, x.Len()-1, nodes[less])
					checkSameAll(t, c, tries[less])
				}
			}
			if t.Failed() {
				t.Fatalf("width %d, set %b", width, set)
			}
		}
	}
}

// checkSameAll: two tries tell the same.
func checkSameAll(t *testing.T, x, y *trie.Trie[int]) {
	t.Helper()
	type one struct {
		p trie.Prefix
		v int
	}
	var got, want []one
	for p, v := range x.All() {
		got = append(got, one{p, v})
	}
	for p, v := range y.All() {
		want = append(want, one{p, v})
	}
	if !slices.Equal(got, want) {
		t.Errorf("%v, not %v", got, want)
	}
}

// TestAllScripts: each script of up to four calls over the prefixes of the width 2, of at most three.
func TestAllScripts(t *testing.T) {
	prefixes, values := allBits(0, 2), allBits(2, 2)
	var further func(x *trie.Trie[int], m *model, left int)
	further = func(x *trie.Trie[int], m *model, left int) {
		checkSame(t, x, m, prefixes, values)
		if left == 0 || t.Failed() {
			return
		}
		for _, bits := range prefixes {
			for call := range 3 {
				c, n := x.Copy(), &model{m.width, m.most, maps.Clone(m.things)}
				doOne(t, c, n, call, bits, left)
				further(c, n, left-1)
			}
		}
	}
	further(fresh[int](t, 2, 3), &model{2, 3, map[string]int{}}, 4)
}

// doOne does a call to both: 0 a Put, 1 a Drop, 2 a Set.
func doOne(t *testing.T, x *trie.Trie[int], m *model, call int, bits string, v int) {
	t.Helper()
	p := of(bits, m.width)
	switch call {
	case 0:
		checkPut(t, x, p, v, m.put(bits, v))
	case 1:
		was, there := m.drop(bits)
		checkDrop(t, x, p, was, there)
	case 2:
		checkSet(t, x, p, v, m.set(bits, v))
	}
}

// drawBits are bits of a width; most often they begin as one of a list does.
func drawBits(r *rand.Rand, list []string, width int) string {
	b := make([]byte, width)
	for i := range b {
		b[i] = byte('0' + r.Intn(2))
	}
	if len(list) > 0 && r.Intn(4) > 0 {
		one := list[r.Intn(len(list))]
		copy(b, one[:r.Intn(len(one)+1)])
	}
	return string(b)
}

// drawPrefix is a prefix in a width, of any length, often near one of a list.
func drawPrefix(r *rand.Rand, list []string, width int) string {
	bits := drawBits(r, list, width)
	switch r.Intn(4) {
	case 0:
		return bits[:r.Intn(min(4, width)+1)]
	case 1:
		return bits[:width-r.Intn(min(4, width)+1)]
	}
	return bits[:r.Intn(width+1)]
}

// drawList are so many prefixes in a width, each once, or fewer, if it has fewer.
func drawList(r *rand.Rand, width, many int) []string {
	var list []string
	for range 20 * many {
		bits := drawPrefix(r, list, width)
		if len(list) < many && !slices.Contains(list, bits) {
			list = append(list, bits)
		}
	}
	return list
}

// TestDrawn: scripts in all widths, held against the model.
func TestDrawn(t *testing.T) {
	r := rand.New(rand.NewSource(1))
	for width := 1; width <= 128; width++ {
		for _, most := range []int{1, 2, 3, 5, 12, 40} {
			x, m := fresh[int](t, width, most), &model{width, most, map[string]int{}}
			for step := range 150 {
				drawnStep(t, r, &x, m, step)
				if t.Failed() {
					t.Fatalf("width %d, most %d, step %d", width, most, step)
				}
			}
		}
	}
}

// drawnStep does one call, and looks at a little of what is told then.
func drawnStep(t *testing.T, r *rand.Rand, x **trie.Trie[int], m *model, step int) {
	t.Helper()
	list := slices.Sorted(maps.Keys(m.things))
	bits := drawPrefix(r, list, m.width)
	if len(list) > 0 && r.Intn(3) == 0 {
		bits = list[r.Intn(len(list))]
	}
	switch r.Intn(60) {
	case 0:
		(*x).Clear()
		clear(m.things)
	case 1:
		old := *x
		*x = old.Copy()
		old.Clear()
	default:
		doOne(t, *x, m, []int{0, 0, 0, 1, 1, 2}[r.Intn(6)], bits, step)
	}
	checkSame(t, *x, m, []string{bits, drawPrefix(r, list, m.width)}, []string{drawBits(r, list, m.width), bits + drawBits(r, nil, m.width)[len(bits):]})
}

// TestGreat: as many as there may be, in the narrowest width that has so many, and in wider ones.
func TestGreat(t *testing.T) {
	r := rand.New(rand.NewSource(2))
	for _, width := range []int{12, 16, 32, 128} {
		x, m := fresh[int](t, width, api.MaxCapacity), &model{width, api.MaxCapacity, map[string]int{}}
		for i := 0; len(m.things) < api.MaxCapacity; i++ {
			bits := drawBits(r, nil, width)[:width-r.Intn(width+1)/(1+r.Intn(3))]
			checkPut(t, x, of(bits, width), i, m.put(bits, i))
		}
		checkGreatOne(t, r, x, m)
		for _, one := range m.under("")[:100] {
			checkGet(t, x, of(one.bits, width), one.v, true)
			checkDrop(t, x, of(one.bits, width), one.v, true)
			m.drop(one.bits)
		}
		checkGreatOne(t, r, x, m)
	}
}

// checkGreatOne is checkSame without the forks, for which the model takes long.
func checkGreatOne(t *testing.T, r *rand.Rand, x *trie.Trie[int], m *model) {
	t.Helper()
	if x.Len() != len(m.things) || x.Nodes() < x.Len() || x.Nodes() >= 2*x.Len() {
		t.Errorf("%d of %d, %d nodes", x.Len(), len(m.things), x.Nodes())
	}
	if got, want := collected(t, x.All(), m.width), m.under(""); !slices.Equal(got, want) {
		t.Errorf("width %d: %v", m.width, some(got))
	}
	for range 500 {
		all := drawBits(r, nil, m.width)
		var got []string
		for _, p := range x.Every(number(all, m.width)) {
			got = append(got, written(t, p, m.width))
		}
		if !slices.Equal(got, m.every(all)) {
			t.Errorf("Every(%s) is %q", all, got)
		}
	}
}

// TestWholeTree: all prefixes of the width 11, of which there are 4095.
func TestWholeTree(t *testing.T) {
	x := fresh[int](t, 11, 4095)
	list := allBits(0, 11)
	for i := range list {
		at := i * 1024 % 4095
		checkPut(t, x, of(list[at], 11), at, api.OK)
	}
	checkMany(t, x, 4095, 4095)
	for at, bits := range list {
		checkGet(t, x, of(bits, 11), at, true)
	}
	for at, bits := range list {
		if len(bits) < 11 {
			checkDrop(t, x, of(bits, 11), at, true)
		}
	}
	checkMany(t, x, 2048, 4095) // each fork is there still
	for at, bits := range list {
		if len(bits) == 11 && bits[10] == '0' {
			checkDrop(t, x, of(bits, 11), at, true)
		}
	}
	checkMany(t, x, 1024, 2047)
}
