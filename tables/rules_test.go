package tables_test

import (
	"math"
	"math/rand"
	"reflect"
	"runtime"
	"slices"
	"strings"
	"sync"
	"testing"
	"unsafe"
	"weak"

	"turnout/api"
	"turnout/schema"
	"turnout/tables"
)

// R1

// TestTotal: any numbers, texts and lists for the arguments, in tables of all kinds; each answer is the model's.
func TestTotal(t *testing.T) {
	r := drawer{rand.New(rand.NewSource(17))}
	ints := []int{math.MinInt, math.MinInt32, -1, 0, 1, 2, 5, 6, 8, 31, 32, 33, 128, 129, api.MaxPriority, api.MaxPriority + 1, math.MaxInt}
	names := []string{"", "route", "acl", "mac", "long", "mask", "none", "out", "hop", "grow", "x", "meta", "\xff\x00", strings.Repeat("a", 1000)}
	values := func(most int) []api.Bits {
		var list []api.Bits
		for range r.Intn(most + 1) {
			list = append(list, r.value([]int{1, 8, 9, 48, 128}[r.Intn(5)]))
		}
		return list
	}
	x, m := fresh(t, whole()), newModel(whole())
	for range 3000 {
		var ops []api.Op
		for range r.Intn(3) {
			said := m.s.Tables[r.Intn(len(m.s.Tables))]
			op := r.op(m.s, said, nil)
			switch r.Intn(8) {
			case 0:
				op.Kind = ints[r.Intn(len(ints))]
			case 1:
				op.Table = names[r.Intn(len(names))]
			case 2:
				op.Entry.Priority = ints[r.Intn(len(ints))]
			case 3:
				op.Entry.Call = api.Call{Action: names[r.Intn(len(names))], Args: values(9)}
			case 4:
				op.Entry.Match = make([]api.Match, r.Intn(12))
				for i, a := range values(len(op.Entry.Match)) {
					op.Entry.Match[i] = api.Match{Value: a, Len: ints[r.Intn(len(ints))]}
				}
			}
			ops = append(ops, op)
		}
		doBoth(t, x, m, ops)
		name, key := names[r.Intn(len(names))], values(6)
		h, e := x.Lookup(name, key...)
		said, _, there := schema.Table(m.s, name)
		widths, _ := schema.Widths(m.s, name)
		switch {
		case !there && e != api.ErrTable, there && e == api.ErrTable:
			t.Errorf("Lookup(%q): %d", name, e)
		case e == api.ErrKey && slices.EqualFunc(key, widths, func(a api.Bits, w int) bool { return fitsIn(a, w) }):
			t.Errorf("Lookup(%q, %v): %d", name, key, e)
		case e == api.OK:
			c, best := m.lookup(said.Name, key)
			checkLookup(t, x, name, key, c, best...)
		case !reflect.DeepEqual(h, api.Hit{}):
			t.Errorf("Lookup(%q): %v beside an error", name, h)
		}
		if t.Failed() {
			t.FailNow()
		}
	}
}

// fitsIn tells whether a value is below 2^w.
func fitsIn(a api.Bits, w int) bool {
	if w >= 64 {
		return w == 128 || a.Hi>>(w-64) == 0
	}
	return a.Hi == 0 && a.Lo>>w == 0
}

// R3

// TestHandedInIsNotChanged: nor kept, its spare room neither.
func TestHandedInIsNotChanged(t *testing.T) {
	s, same := whole(), whole()
	x := fresh(t, s)
	want := entry(0, call("hop", 1, 2, 3), begins(0x0a000000, 8), exactly(6))
	for _, kind := range []int{api.Insert, api.Modify} {
		args, matches := ns(1, 2, 3, 4, 5), []api.Match{begins(0x0a000000, 8), exactly(6), exactly(7), exactly(8)}
		ops := make([]api.Op, 1, 3)
		ops[0] = api.Op{Kind: kind, Table: "route", Entry: entry(0, api.Call{Action: "hop", Args: args[:3]})}
		ops[0].Entry.Match = matches[:2]
		spare := ops[:3]
		x.Try(ops...)
		x.Do(append(slices.Clone(ops), api.Op{Kind: 9})...)
		done(t, x, ops...)
		if !slices.Equal(args, ns(1, 2, 3, 4, 5)) || !slices.Equal(matches, []api.Match{begins(0x0a000000, 8), exactly(6), exactly(7), exactly(8)}) || !reflect.DeepEqual(spare[1:], make([]api.Op, 2)) {
			t.Errorf("changed: %v %v %v", args, matches, spare)
		}
		c := x.Copy()
		spoil(ops[0].Entry)
		checkTable(t, x, "route", call("none"), want)
		checkTable(t, c, "route", call("none"), want)
	}
	args := ns(7, 8, 9, 10)
	done(t, x, setDefault("route", api.Call{Action: "hop", Args: args[:3]}))
	copy(args, ns(0, 0, 0, 0))
	checkTable(t, x, "route", call("hop", 7, 8, 9), want)
	key := append(make([]api.Bits, 0, 9), ns(0x0a000001, 6)...)
	checkLookup(t, x, "route", key, want.Call, want)
	if !slices.Equal(key[:9], append(ns(0x0a000001, 6), make([]api.Bits, 7)...)) {
		t.Errorf("the key is %v", key[:9])
	}
	if !reflect.DeepEqual(s, same) {
		t.Error("the schema was changed")
	}
}

// TestSpoiltBehindIt: what was handed in is spoilt behind each call, in tables of each kind.
func TestSpoiltBehindIt(t *testing.T) {
	x := fresh(t, many())
	for _, other := range []uint64{0, 100} {
		for table, list := range fives() {
			for i, e := range list {
				e.Call = call("g", 7)
				if other > 0 {
					e.Call = call("g", uint64(i))
					done(t, x, modify(table, e))
				} else {
					done(t, x, insert(table, e))
				}
				spoil(e)
			}
		}
	}
	checkSame(t, x, filled(t), true)
	y, e := tables.Load(many(), heldOf(t))
	held := heldOf(t)
	z, f := tables.Load(many(), held)
	for _, h := range held {
		spoilHeld(h)
	}
	if e != api.OK || f != api.OK {
		t.Fatal(e, f)
	}
	checkSame(t, y, z, true)
}

// TestLoadDoesNotChange: what Load is handed, whether it takes it or not.
func TestLoadDoesNotChange(t *testing.T) {
	for _, turn := range []func(h []api.Held){func([]api.Held) {}, func(h []api.Held) { slices.Reverse(h[3].Entries) }, func(h []api.Held) { h[3].Entries[4].Call.Args = nil }} {
		held, same := heldOf(t), heldOf(t)
		turn(held)
		turn(same)
		for i := range held {
			held[i].Entries = append(make([]api.Entry, 0, 9), held[i].Entries...)
		}
		tables.Load(many(), held)
		checkHeld(t, "handed in", held, same)
		for i := range held {
			if !reflect.DeepEqual(held[i].Entries[5:9], make([]api.Entry, 4)) {
				t.Error("the spare room was changed")
			}
		}
	}
}

// answers are what a set of many tells, as lists of what is held; each call is an answer of its own.
func answers(t *testing.T) map[string]func(x *tables.Set) []api.Held {
	looked := func(x *tables.Set, table string, key ...api.Bits) api.Held {
		h, e := x.Lookup(table, key...)
		if e != api.OK {
			t.Errorf("Lookup: %d", e)
		}
		if !h.Found {
			return api.Held{Default: h.Call}
		}
		return api.Held{Default: h.Call, Entries: []api.Entry{h.Entry}}
	}
	list := map[string]func(x *tables.Set) []api.Held{
		"All":  func(x *tables.Set) []api.Held { return x.All() },
		"Held": func(x *tables.Set) []api.Held { h, _ := x.Held("r"); k, _ := x.Held("x"); return []api.Held{h, k} },
		"the schema": func(x *tables.Set) []api.Held {
			var list []api.Held
			for _, said := range x.Schema().Tables {
				list = append(list, api.Held{Default: said.Default})
			}
			return list
		},
	}
	for table, l := range fives() {
		list["Entries of "+table] = func(x *tables.Set) []api.Held { return []api.Held{{Entries: slices.Collect(x.Entries(table))}} }
		list["Held of "+table] = func(x *tables.Set) []api.Held { h, _ := x.Held(table); return []api.Held{h} }
		list["Lookup in "+table] = func(x *tables.Set) []api.Held {
			return []api.Held{looked(x, table, l[0].Match[0].Value, l[0].Match[1].Value), looked(x, table, n(77), n(0xc7))}
		}
	}
	return list
}

// TestAnswersAreTheirOwners: what is answered shares nothing with what is kept, nor with another answer, nor within itself.
func TestAnswersAreTheirOwners(t *testing.T) {
	deep := func(list []api.Held) []api.Held {
		var out []api.Held
		for _, h := range list {
			h.Default.Args = slices.Clone(h.Default.Args)
			h.Entries = slices.Clone(h.Entries)
			for i, e := range h.Entries {
				h.Entries[i] = copied(e)
			}
			out = append(out, h)
		}
		return out
	}
	for what, ask := range answers(t) {
		x := filled(t)
		c, s := x.Copy(), x.Schema()
		first, second := ask(x), ask(x)
		want := deep(second)
		for _, h := range first {
			spoilHeld(h)
		}
		checkHeld(t, what, second, want)
		for i, h := range second {
			spoilCall(h.Default)
			checkHeld(t, what+", one's entries", []api.Held{{Entries: h.Entries}}, []api.Held{{Entries: want[i].Entries}})
			for k, e := range h.Entries {
				spoil(api.Entry{Match: e.Match})
				if !alikeCalls(e.Call, want[i].Entries[k].Call) {
					t.Errorf("%s: a match shares a call's memory", what)
				}
				spoil(e)
				checkEntries(t, what+", those behind it", h.Entries[k+1:], want[i].Entries[k+1:])
			}
			checkHeld(t, what+", those behind it", second[i+1:], want[i+1:])
		}
		checkSame(t, x, filled(t), true)
		checkSame(t, c, filled(t), true)
		if !schema.Same(s, many()) || !schema.Same(x.Schema(), many()) {
			t.Errorf("%s: the schema is %v", what, x.Schema())
		}
	}
}

// TestSchemaIsItsOwners: what Schema answers is new, all of it.
func TestSchemaIsItsOwners(t *testing.T) {
	x := fresh(t, whole())
	c := x.Copy()
	s := x.Schema()
	s.Headers[0].Fields[0].Width = 1
	s.Meta[0].Width = 1
	s.States[0].Cases[0].Next = "x"
	s.Actions[0].Params[0].Width = 1
	s.Actions[0].Steps[0].Kind = 9
	s.Control[0].Then[0].Table = "x"
	for i := range s.Tables {
		s.Tables[i].Keys[0].Kind, s.Tables[i].Actions[0], s.Tables[i].Size, s.Tables[i].Name = 9, "x", 1, "x"
		spoilCall(s.Tables[i].Default)
	}
	for _, y := range []*tables.Set{x, c} {
		if !schema.Same(y.Schema(), whole()) {
			t.Errorf("the schema is %v", y.Schema())
		}
		done(t, y, clearOf("mac"))
		checkTable(t, y, "mac", call("hop", 1<<40, 2, 3))
	}
}

// TestToldInARange: what a range told may be changed, while it goes on and behind it.
func TestToldInARange(t *testing.T) {
	x := filled(t)
	for table, list := range fives() {
		all := x.Entries(table)
		i := 0
		for e := range all {
			if !alike(e, list[i]) {
				t.Errorf("%s: %d is %v", table, i, e)
			}
			spoil(e)
			i++
			checkEntries(t, "the inner one", collected(t, all), list)
		}
		checkTable(t, x, table, call("g", 99), list...)
	}
}

// long is a text in memory of its own, of so many bytes of another one.
func long(text string) (string, weak.Pointer[byte]) {
	whole := strings.Repeat(text, 1000)
	return whole[:len(text)], weak.Make(unsafe.StringData(whole))
}

// TestHandedInIsLetGo: no list and no text that was handed in is held by the set, nor by an iterator.
func TestHandedInIsLetGo(t *testing.T) {
	x := fresh(t, many())
	var texts []weak.Pointer[byte]
	var lists []weak.Pointer[api.Bits]
	var matches []weak.Pointer[api.Match]
	own := func(text string) string {
		text, p := long(text)
		texts = append(texts, p)
		return text
	}
	for table, l := range fives() {
		for i, e := range l {
			e.Call.Action = own("g")
			lists, matches = append(lists, weak.Make(&e.Call.Args[0])), append(matches, weak.Make(&e.Match[0]))
			ops := []api.Op{insert(own(table), e), modify(own(table), e), setDefault(own(table), e.Call)}
			x.Try(ops...)
			done(t, x, ops...)
			if i == 2 {
				done(t, x, remove(own(table), e))
			}
		}
	}
	held := filled(t).All()
	for i := range held {
		held[i].Default.Action = own("g")
		for k := range held[i].Entries {
			held[i].Entries[k].Call.Action = own("g")
		}
	}
	s := many()
	s.Tables[0].Name, s.Actions[0].Name, s.Meta[0].Name, s.Tables[0].Actions[0], s.Tables[0].Keys[0].Ref.Name = own("x"), own("g"), own("a"), own("g"), own("a")
	y, e := tables.Load(s, held)
	if e != api.OK {
		t.Fatal(e)
	}
	all, hit := x.Entries(own("x")), api.Hit{}
	hit, _ = x.Lookup(own("x"), ns(1, 2)...)
	s, held = api.Schema{}, nil
	runtime.GC()
	for i, p := range texts {
		if p.Value() != nil {
			t.Errorf("text %d is held", i)
		}
	}
	for i := range lists {
		if lists[i].Value() != nil || matches[i].Value() != nil {
			t.Errorf("entry %d is held", i)
		}
	}
	checkSame(t, y, filled(t), true)
	checkEntries(t, "x", collected(t, all), slices.Delete(fives()["x"], 2, 3))
	for table, list := range fives() {
		checkTable(t, x, table, call("g", 4), slices.Delete(list, 2, 3)...)
	}
	if hit.Table != "x" || !hit.Found || s.Tables != nil || held != nil {
		t.Errorf("%v", hit)
	}
}

// TestNothingStays: what was taken out needs no room any more.
func TestNothingStays(t *testing.T) {
	x := filled(t)
	used := func() uint64 {
		runtime.GC()
		var m runtime.MemStats
		runtime.ReadMemStats(&m)
		return m.HeapAlloc
	}
	before := used()
	for i := range uint64(20000) {
		a, b := i%250, i/250
		for table, e := range map[string]api.Entry{
			"x": entry(0, call("g", 1), exactly(a), exactly(b+10)),
			"p": entry(0, call("g", 1), exactly(a), begins(b*2, 7)),
			"q": entry(0, call("g", 1), begins(b*2, 7), exactly(a)),
			"r": entry(1+int(i), call("g", 1), masked(a, 255), between(b, 255)),
		} {
			if i%10 == 0 {
				x.Try(insert(table, e), clearOf(table))
			}
			done(t, x, insert(table, e), remove(table, e))
		}
	}
	if after := used(); after > before+2<<20 {
		t.Errorf("%d bytes more", after-before)
	}
	checkSame(t, x, filled(t), true)
}

// R4, P15.6

// TestByWhateverWay: two sets that hold the same tell the same, by whatever way they came there.
func TestByWhateverWay(t *testing.T) {
	r := drawer{rand.New(rand.NewSource(18))}
	for range 60 {
		s := r.schema()
		m := newModel(s)
		for range 10 {
			m.do(r.batch(m))
		}
		straight, e := tables.Load(s, m.held)
		if e != api.OK {
			t.Fatal(e)
		}
		round := fresh(t, s)
		for range 10 {
			round.Do(r.batch(m)...)
		}
		for i, said := range s.Tables {
			done(t, round, clearOf(said.Name))
			if !alikeCalls(said.Default, m.held[i].Default) {
				done(t, round, setDefault(said.Name, m.held[i].Default))
			}
			for _, k := range r.Perm(len(m.held[i].Entries)) {
				done(t, round, insert(said.Name, m.held[i].Entries[k]))
			}
			for range 10 {
				key := r.key(s, said, m.held[i].Entries)
				c, best := m.lookup(said.Name, key)
				checkLookup(t, straight, said.Name, key, c, best...)
				checkLookup(t, round, said.Name, key, c, best...)
			}
			checkTable(t, round, said.Name, m.held[i].Default, m.held[i].Entries...)
		}
		checkSame(t, straight, round, true)
		if t.Failed() {
			t.FailNow()
		}
	}
}

// TestTwoSets: two sets have nothing to do with one another.
func TestTwoSets(t *testing.T) {
	s := small()
	a, b := fresh(t, s), fresh(t, s)
	one := inT(1, 0, 0, call("g"))
	done(t, a, insert("t", one), setDefault("t", call("f", 1)))
	checkTable(t, b, "t", call("g"))
	checkDo(t, b, 0, api.ErrAbsent, remove("t", one))
	done(t, b, insert("t", one))
	done(t, a, clearOf("t"))
	checkTable(t, b, "t", call("g"), one)
	checkTable(t, a, "t", call("g"))
}

// R7, P15.5

// TestSideBySide: calls that only ask, by many goroutines; and what is done to a copy meanwhile.
func TestSideBySide(t *testing.T) {
	x, c := filled(t), call("g", 99)
	all := map[string]func(func(api.Entry) bool){}
	for table := range fives() {
		all[table] = x.Entries(table)
	}
	other := x.Copy()
	done(t, other, clearOf("x"))
	var group sync.WaitGroup
	for range 12 {
		group.Go(func() {
			for range 5 {
				for table, list := range fives() {
					checkTable(t, x, table, c, list...)
					checkEntries(t, "told", slices.Collect(all[table]), list)
					checkLookup(t, x, table, []api.Bits{list[0].Match[0].Value, list[0].Match[1].Value}, list[0].Call, list[0])
					checkLookup(t, x, table, ns(77, 0xc7), map[bool]api.Call{true: fives()["r"][4].Call, false: c}[table == "r"], map[bool][]api.Entry{true: fives()["r"][4:], false: nil}[table == "r"]...)
					for what, ops := range changes(table) {
						copied := x.Copy()
						at, code := x.Try(ops...)
						if k, e := copied.Do(ops...); k != at || e != code {
							t.Errorf("%s: Try %d %d, Do of a copy %d %d", what, at, code, k, e)
						}
					}
				}
				checkSame(t, x, other, false)
				if !x.Same(x) || !schema.Same(x.Schema(), many()) {
					t.Error("the schema")
				}
			}
		})
	}
	group.Wait()
	checkSame(t, x, filled(t), true)
}
