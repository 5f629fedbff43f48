package tern_test

import (
	"fmt"
	"math/rand"
	"slices"
	"testing"

	"turnout/api"
	"turnout/match"
	"turnout/schema"
	"turnout/tern"
)

// A model keeps entries of one table in a list; it goes by the chapter's words, entry by entry.
type model struct {
	s     api.Schema
	table string
	most  int
	kept  []api.Entry
}

func (m *model) at(e api.Entry) int {
	return slices.IndexFunc(m.kept, func(k api.Entry) bool { return match.Same(k, e) })
}

func (m *model) put(e api.Entry) api.Errno {
	if code := match.Right(m.s, m.table, e); code != api.OK {
		return code
	}
	if m.at(e) >= 0 {
		return api.ErrDup
	}
	if len(m.kept) == m.most {
		return api.ErrFull
	}
	m.kept = append(m.kept, copied(e))
	slices.SortFunc(m.kept, match.Order)
	return api.OK
}

func (m *model) set(e api.Entry) api.Errno {
	if code := match.Right(m.s, m.table, e); code != api.OK {
		return code
	}
	if m.at(e) < 0 {
		return api.ErrAbsent
	}
	m.kept[m.at(e)] = copied(e)
	return api.OK
}

// get is a list of the one that is kept, or of none.
func (m *model) get(e api.Entry) []api.Entry {
	if m.at(e) < 0 {
		return nil
	}
	return []api.Entry{m.kept[m.at(e)]}
}

func (m *model) drop(e api.Entry) []api.Entry {
	was := m.get(e)
	m.kept = slices.DeleteFunc(m.kept, func(k api.Entry) bool { return match.Same(k, e) })
	return was
}

// clone is another model that keeps the same.
func (m *model) clone() *model {
	c := *m
	c.kept = slices.Clone(m.kept)
	return &c
}

func (m *model) every(key []api.Bits) []api.Entry {
	var list []api.Entry
	for _, e := range m.kept {
		if match.Hits(m.s, m.table, e, key) {
			list = append(list, e)
		}
	}
	return list
}

func (m *model) hidden() []api.Entry {
	var list []api.Entry
	for i, e := range m.kept {
		if slices.ContainsFunc(m.kept[:i], func(a api.Entry) bool { return match.Covers(m.s, m.table, a, e) }) {
			list = append(list, e)
		}
	}
	return list
}

// groups counts the shapes.
func (m *model) groups() int {
	shapes := map[string]int{}
	t, _, _ := schema.Table(m.s, m.table)
	for _, e := range m.kept {
		text := ""
		for i, k := range t.Keys {
			switch k.Kind {
			case api.Prefix:
				text += fmt.Sprint(e.Match[i].Len, ";")
			case api.Ternary:
				text += fmt.Sprint(e.Match[i].Mask, ";")
			case api.Range:
				text += fmt.Sprint(e.Match[i].Value, e.Match[i].Mask, ";")
			}
		}
		shapes[text]++
	}
	return len(shapes)
}

// checkSame holds what a list tells, of these entries and keys, against the model.
func checkSame(t *testing.T, l *tern.List, m *model, entries []api.Entry, keys [][]api.Bits) {
	t.Helper()
	checkAll(t, l, m.kept...)
	checkGroups(t, l, m.groups())
	hidden := m.hidden()
	checkHidden(t, l, hidden...)
	for _, e := range entries {
		checkGet(t, l, e, m.get(e)...)
	}
	for _, key := range keys {
		every := m.every(key)
		checkEvery(t, l, key, every...)
		checkFind(t, l, key, every[:min(1, len(every))]...)
		// P14.6: it is never one of those that are hidden
		if e, there := l.Find(key); there && slices.ContainsFunc(hidden, func(h api.Entry) bool { return match.Same(h, e) }) {
			t.Errorf("Find(%v) is hidden: %v", key, e)
		}
		if best := match.Best(m.s, m.table, m.kept, key); best >= 0 {
			checkFind(t, l, key, m.kept[best])
		}
	}
}

// A world is a schema with one table, t.
type world struct{ s api.Schema }

func (w world) keys() []api.Key { return w.s.Tables[0].Keys }

func (w world) width(part int) int { return w.s.Meta[part].Width }

// allMatches are all that may be for a part of a small width.
func allMatches(kind, width int) []api.Match {
	var list []api.Match
	top := uint64(1) << width
	for a := range top {
		switch kind {
		case api.Exact:
			list = append(list, exactly(a))
		case api.Ternary:
			for mask := range top {
				if a&mask == a {
					list = append(list, masked(a, mask))
				}
			}
		case api.Range:
			for b := a; b < top; b++ {
				list = append(list, between(a, b))
			}
		case api.Prefix:
			for bits := range width + 1 {
				if a%(1<<(width-bits)) == 0 {
					list = append(list, begins(a, bits))
				}
			}
		}
	}
	return list
}

// allEntries are all of a world, with two priorities, if it has some; each one's argument is its number.
func (w world) allEntries() []api.Entry {
	rows := [][]api.Match{nil}
	for i, k := range w.keys() {
		var longer [][]api.Match
		for _, row := range rows {
			for _, m := range allMatches(k.Kind, w.width(i)) {
				longer = append(longer, append(slices.Clone(row), m))
			}
		}
		rows = longer
	}
	priorities := []int{0}
	if ranked(w.s, "t") {
		priorities = []int{1, 2}
	}
	var list []api.Entry
	for _, row := range rows {
		for _, p := range priorities {
			list = append(list, entry(p, call("g", uint64(len(list))), row...))
		}
	}
	return list
}

// allKeys are all of a world.
func (w world) allKeys() [][]api.Bits {
	keys := [][]api.Bits{nil}
	for i := range w.keys() {
		var longer [][]api.Bits
		for _, key := range keys {
			for a := range uint64(1) << w.width(i) {
				longer = append(longer, append(slices.Clone(key), n(a)))
			}
		}
		keys = longer
	}
	return keys
}

// TestAllPairs: in small worlds of all kinds, each two entries, in both orders; what is left of them, if one is dropped; and all of the world's entries at once.
func TestAllPairs(t *testing.T) {
	for _, parts := range [][]kindred{
		{{api.Exact, 2}}, {{api.Prefix, 3}}, {{api.Ternary, 2}}, {{api.Range, 2}},
		{{api.Exact, 1}, {api.Prefix, 2}}, {{api.Prefix, 2}, {api.Exact, 1}},
		{{api.Ternary, 1}, {api.Range, 1}}, {{api.Exact, 1}, {api.Ternary, 1}}, {{api.Range, 1}, {api.Exact, 1}},
	} {
		w := world{keyed(parts...)}
		entries, keys := w.allEntries(), w.allKeys()
		for _, one := range entries {
			for _, two := range entries {
				l, m := fresh(t, w.s, "t", 9), &model{w.s, "t", 9, nil}
				checkPut(t, l, one, m.put(one))
				checkPut(t, l, two, m.put(two))
				checkSame(t, l, m, []api.Entry{one, two}, keys)
				checkDrop(t, l, one, m.drop(one)...)
				checkSame(t, l, m, []api.Entry{one, two}, keys)
				checkDrop(t, l, two, m.drop(two)...)
				checkSame(t, l, m, []api.Entry{one, two}, nil)
				if t.Failed() {
					t.Fatalf("%v: %v, %v", parts, one, two)
				}
			}
		}
		l, m := fresh(t, w.s, "t", len(entries)), &model{w.s, "t", len(entries), nil}
		for _, e := range entries {
			checkPut(t, l, e, m.put(e))
		}
		checkSame(t, l, m, entries, keys)
	}
}

// TestAllScripts: each script of up to three calls over the entries of the narrowest world of priorities, of at most two.
func TestAllScripts(t *testing.T) {
	w := world{keyed(kindred{api.Ternary, 1})}
	entries, keys := w.allEntries(), w.allKeys()
	var further func(l *tern.List, m *model, left int)
	further = func(l *tern.List, m *model, left int) {
		checkSame(t, l, m, entries, keys)
		if left == 0 || t.Failed() {
			return
		}
		for _, e := range entries {
			for way := range 3 {
				c, n := l.Copy(), m.clone()
				doOne(t, c, n, way, e, uint64(left))
				further(c, n, left-1)
			}
		}
	}
	further(fresh(t, w.s, "t", 2), &model{w.s, "t", 2, nil}, 3)
}

// doOne does a call to both: 0 a Put, 1 a Drop, 2 a Set.
func doOne(t *testing.T, l *tern.List, m *model, way int, e api.Entry, p uint64) {
	t.Helper()
	e.Call = call("g", p)
	switch way {
	case 0:
		checkPut(t, l, e, m.put(e))
	case 1:
		checkDrop(t, l, e, m.drop(e)...)
	case 2:
		checkSet(t, l, e, m.set(e))
	}
}

// drawWorld is one of parts of any kinds that may stand together.
func drawWorld(r *rand.Rand) world {
	together := [][]int{{api.Exact}, {api.Exact, api.Prefix}, {api.Exact, api.Ternary, api.Range}, {api.Ternary, api.Range}, {api.Ternary}, {api.Range}}[r.Intn(6)]
	var parts []kindred
	for range []int{1, 1, 2, 2, 3, 4, 8}[r.Intn(7)] {
		kind := together[r.Intn(len(together))]
		parts = append(parts, kindred{kind, []int{1, 2, 3, 4, 7, 8, 9, 16, 32, 63, 64, 65, 127, 128}[r.Intn(14)]})
		if kind == api.Prefix {
			together = []int{api.Exact}
		}
	}
	return world{keyed(parts...)}
}

// drawValue is a value of a width: one of few.
func drawValue(r *rand.Rand, width int) api.Bits {
	shift := 128 - width
	cut := func(a api.Bits) api.Bits {
		if shift >= 64 {
			return api.Bits{Lo: a.Lo << (shift - 64) >> (shift - 64)}
		}
		return api.Bits{Hi: a.Hi << shift >> shift, Lo: a.Lo}
	}
	switch r.Intn(8) {
	case 0:
		return cut(most)
	case 1:
		return cut(api.Bits{Hi: most.Hi - uint64(r.Intn(2)), Lo: most.Lo - uint64(r.Intn(3))})
	case 2:
		return cut(api.Bits{Hi: uint64(r.Intn(2)), Lo: uint64(r.Intn(3))})
	case 3:
		return cut(api.Bits{Hi: r.Uint64(), Lo: r.Uint64()})
	}
	return cut(n(uint64(r.Intn(4))))
}

// drawMatch is one that may be for a part.
func drawMatch(r *rand.Rand, kind, width int) api.Match {
	a, b := drawValue(r, width), drawValue(r, width)
	switch kind {
	case api.Prefix:
		bits := []int{0, width, r.Intn(width + 1), r.Intn(width + 1)}[r.Intn(4)]
		gone := width - bits
		if gone >= 64 {
			return api.Match{Value: api.Bits{Hi: a.Hi >> (gone - 64) << (gone - 64)}, Len: bits}
		}
		return api.Match{Value: api.Bits{Hi: a.Hi, Lo: a.Lo >> gone << gone}, Len: bits}
	case api.Ternary:
		return api.Match{Value: api.Bits{Hi: a.Hi & b.Hi, Lo: a.Lo & b.Lo}, Mask: b}
	case api.Range:
		if a.Hi > b.Hi || a.Hi == b.Hi && a.Lo > b.Lo {
			a, b = b, a
		}
		return api.Match{Value: a, Mask: b}
	}
	return api.Match{Value: a}
}

// drawEntry is a right entry of the world, often near one of a list.
func (w world) drawEntry(r *rand.Rand, list []api.Entry) api.Entry {
	e := entry(0, call("g", uint64(r.Intn(1000))))
	for i, k := range w.keys() {
		e.Match = append(e.Match, drawMatch(r, k.Kind, w.width(i)))
	}
	if ranked(w.s, "t") {
		e.Priority = []int{1, 1, 2, 3, 3, 4, 1 + r.Intn(api.MaxPriority), api.MaxPriority}[r.Intn(8)]
	}
	if len(list) > 0 && r.Intn(3) > 0 {
		near := list[r.Intn(len(list))]
		at := r.Intn(len(e.Match) + 1)
		for i := range e.Match {
			if i != at {
				e.Match[i] = near.Match[i]
			}
		}
		if at < len(e.Match) && r.Intn(2) == 0 {
			e.Priority = near.Priority
		}
	}
	return e
}

// drawList are so many entries, each once, or fewer, if the world is small.
func (w world) drawList(r *rand.Rand, many int) []api.Entry {
	var list []api.Entry
	for range 20 * many {
		e := w.drawEntry(r, list)
		if len(list) < many && !slices.ContainsFunc(list, func(o api.Entry) bool { return match.Same(o, e) }) {
			list = append(list, e)
		}
	}
	return list
}

// drawKey is a key; most often one of a list hits it, or nearly.
func (w world) drawKey(r *rand.Rand, list []api.Entry) []api.Bits {
	var key []api.Bits
	for i := range w.keys() {
		key = append(key, drawValue(r, w.width(i)))
	}
	if len(list) == 0 || r.Intn(6) == 0 {
		return key
	}
	e := list[r.Intn(len(list))]
	for i, k := range w.keys() {
		m, a := e.Match[i], key[i]
		switch {
		case k.Kind == api.Ternary:
			key[i] = api.Bits{Hi: a.Hi&^m.Mask.Hi | m.Value.Hi, Lo: a.Lo&^m.Mask.Lo | m.Value.Lo}
		case k.Kind == api.Range && r.Intn(2) == 0:
			key[i] = m.Mask
		default:
			key[i] = m.Value
		}
	}
	if r.Intn(6) == 0 {
		at := r.Intn(len(key))
		key[at] = drawValue(r, w.width(at))
	}
	return key
}

// TestDrawn: scripts in all kinds of worlds, held against the model.
func TestDrawn(t *testing.T) {
	r := rand.New(rand.NewSource(1))
	for round := range 250 {
		w := drawWorld(r)
		most := []int{1, 2, 3, 5, 12, 30}[r.Intn(6)]
		l, m := fresh(t, w.s, "t", most), &model{w.s, "t", most, nil}
		for step := range 60 {
			drawnStep(t, r, w, &l, m, step)
			if t.Failed() {
				t.Fatalf("round %d, step %d: %v", round, step, w.s.Tables[0].Keys)
			}
		}
	}
}

// drawnStep does one call, and looks at a little of what is told then.
func drawnStep(t *testing.T, r *rand.Rand, w world, l **tern.List, m *model, step int) {
	t.Helper()
	e := w.drawEntry(r, m.kept)
	if len(m.kept) > 0 && r.Intn(3) == 0 {
		e = m.kept[r.Intn(len(m.kept))]
	}
	switch r.Intn(50) {
	case 0:
		(*l).Clear()
		m.kept = nil
	case 1:
		old := *l
		*l = old.Copy()
		old.Clear()
	default:
		doOne(t, *l, m, []int{0, 0, 0, 1, 1, 2}[r.Intn(6)], e, uint64(step))
	}
	checkSame(t, *l, m, []api.Entry{e, w.drawEntry(r, m.kept)}, [][]api.Bits{w.drawKey(r, m.kept), w.drawKey(r, []api.Entry{e})})
}

// TestGreat: as many entries as there may be, of few shapes and of many.
func TestGreat(t *testing.T) {
	r := rand.New(rand.NewSource(2))
	for _, parts := range [][]kindred{{{api.Ternary, 32}, {api.Range, 16}}, {{api.Ternary, 5}, {api.Exact, 16}}, {{api.Range, 64}}, {{api.Exact, 16}, {api.Prefix, 32}}} {
		w := world{keyed(parts...)}
		l, m := fresh(t, w.s, "t", api.MaxCapacity), &model{w.s, "t", api.MaxCapacity, nil}
		taken := map[string]int{}
		for i := 0; len(m.kept) < api.MaxCapacity; i++ {
			e := entry(0, call("g", uint64(i)))
			for k, p := range parts {
				e.Match = append(e.Match, drawMatch(r, p.kind, p.width))
				if w.keys()[k].Kind == api.Exact {
					e.Match[k].Value = n(uint64(r.Intn(1 << 16)))
				}
			}
			if ranked(w.s, "t") {
				e.Priority = 1 + r.Intn(3000)
			}
			want := api.OK
			if text := fmt.Sprint(e.Match, e.Priority); taken[text] > 0 {
				want = api.ErrDup
			} else {
				taken[text]++
				m.kept = append(m.kept, e)
			}
			checkPut(t, l, e, want)
		}
		slices.SortFunc(m.kept, match.Order)
		checkGreatOne(t, r, w, l, m)
		for range 1000 {
			at := r.Intn(len(m.kept))
			checkDrop(t, l, m.kept[at], m.kept[at])
			m.kept = slices.Delete(m.kept, at, at+1)
		}
		checkGreatOne(t, r, w, l, m)
	}
}

// checkGreatOne holds what is told of a great list against the model, but for what takes it long.
func checkGreatOne(t *testing.T, r *rand.Rand, w world, l *tern.List, m *model) {
	t.Helper()
	checkAll(t, l, m.kept...)
	checkGroups(t, l, m.groups())
	for range 10 {
		key := w.drawKey(r, m.kept)
		every := m.every(key)
		checkEvery(t, l, key, every...)
		checkFind(t, l, key, every[:min(1, len(every))]...)
	}
	hidden := l.Hidden()
	for range 10 {
		at := r.Intn(len(m.kept))
		e := m.kept[at]
		want := slices.ContainsFunc(m.kept[:at], func(a api.Entry) bool { return match.Covers(m.s, m.table, a, e) })
		if is := slices.ContainsFunc(hidden, func(h api.Entry) bool { return match.Same(h, e) }); is != want {
			t.Errorf("hidden: %v, not %v: %v", is, want, e)
		}
	}
}
