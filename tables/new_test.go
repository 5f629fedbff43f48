package tables_test

import (
	"reflect"
	"slices"
	"testing"

	"turnout/api"
	"turnout/schema"
	"turnout/tables"
)

// P15.1

// unsound are schemas that are not sound, whatever their tables are.
func unsound() map[string]api.Schema {
	list := map[string]api.Schema{}
	for what, turn := range map[string]func(s *api.Schema){
		"a table of no size":     func(s *api.Schema) { s.Tables[1].Size = 0 },
		"a table too great":      func(s *api.Schema) { s.Tables[1].Size = api.MaxCapacity + 1 },
		"a table a second time":  func(s *api.Schema) { s.Tables[1].Name = "t" },
		"no key":                 func(s *api.Schema) { s.Tables[0].Keys = nil },
		"a key that nobody has":  func(s *api.Schema) { s.Tables[0].Keys[0].Ref.Name = "z" },
		"two prefixes":           func(s *api.Schema) { s.Tables[0].Keys[0].Kind = api.Prefix },
		"a default that can't":   func(s *api.Schema) { s.Tables[1].Default = call("f", 1) },
		"a default of too great": func(s *api.Schema) { s.Tables[0].Default = call("f", 512) },
		"the control":            func(s *api.Schema) { s.Control = []api.Stage{{Kind: 9}} },
		"the parser":             func(s *api.Schema) { s.States = []api.State{{Name: "s", Header: "h", Next: "s"}} },
		"a header":               func(s *api.Schema) { s.Headers[0].Fields[0].Width = 7 },
		"the metadata":           func(s *api.Schema) { s.Meta = []api.Field{{Name: "A", Width: 1}} },
		"an action's step":       func(s *api.Schema) { s.Actions[1].Steps = []api.Step{{}} },
	} {
		s := small()
		turn(&s)
		list[what] = s
	}
	return list
}

func TestNotSound(t *testing.T) {
	for what, s := range unsound() {
		if x, e := tables.New(s); x != nil || e != api.ErrSchema {
			t.Errorf("%s: New is %v %d", what, x, e)
		}
		for _, held := range [][]api.Held{nil, {}, make([]api.Held, 2), fresh(t, small()).All()} {
			if x, e := tables.Load(s, held); x != nil || e != api.ErrSchema {
				t.Errorf("%s: Load is %v %d", what, x, e)
			}
		}
	}
}

// TestNewIsEmpty: the schema's default calls, and no entries, in tables of all kinds.
func TestNewIsEmpty(t *testing.T) {
	for _, s := range []api.Schema{small(), whole(), many(), {}} {
		x := fresh(t, s)
		for _, said := range s.Tables {
			checkTable(t, x, said.Name, said.Default)
		}
		if !schema.Same(x.Schema(), s) || len(x.All()) != len(s.Tables) {
			t.Errorf("the schema is %v, All %v", x.Schema(), x.All())
		}
	}
}

// checkLoad holds what Load takes against what the set that it made tells.
func checkLoad(t *testing.T, what string, s api.Schema, held []api.Held, want api.Errno) {
	t.Helper()
	x, e := tables.Load(s, held)
	if e != want || (x == nil) != (want != api.OK) {
		t.Errorf("%s: Load is %v %d, not %d", what, x, e, want)
	} else if x != nil {
		checkHeld(t, what, x.All(), held)
	}
}

// heldOf is what a set of many holds, whose tables hold their five entries, and defaults of their own.
func heldOf(t *testing.T) []api.Held {
	t.Helper()
	x := filled(t)
	for i, said := range many().Tables[:3] {
		done(t, x, setDefault(said.Name, call("g", uint64(10+i))))
	}
	return x.All()
}

// TestLoadAsHeld: what a set holds is taken, and what is done then is done to it.
func TestLoadAsHeld(t *testing.T) {
	x, e := tables.Load(many(), heldOf(t))
	if e != api.OK {
		t.Fatal(e)
	}
	for i, said := range many().Tables {
		c := call("g", []uint64{10, 11, 12, 99}[i])
		list := fives()[said.Name]
		checkTable(t, x, said.Name, c, list...)
		for k, e := range list {
			checkDo(t, x, 0, api.ErrDup, insert(said.Name, e))
			e.Call = call("g", 77)
			done(t, x, modify(said.Name, e))
			list[k] = e
		}
		checkTable(t, x, said.Name, c, list...)
		done(t, x, insert(said.Name, others()[said.Name][0]))
		checkDo(t, x, 0, api.ErrFull, insert(said.Name, others()[said.Name][1]))
		done(t, x, clearOf(said.Name))
		checkTable(t, x, said.Name, said.Default)
	}
	checkSame(t, x, fresh(t, many()), true)
}

// TestLoadOfOthers: what stands in no table, or not so.
func TestLoadOfOthers(t *testing.T) {
	checkLoad(t, "as it is", many(), heldOf(t), api.OK)
	checkLoad(t, "as New lays it", whole(), fresh(t, whole()).All(), api.OK)
	checkLoad(t, "no tables", api.Schema{}, nil, api.OK)
	checkLoad(t, "no tables", api.Schema{}, []api.Held{}, api.OK)
	checkLoad(t, "one more than no tables", api.Schema{}, make([]api.Held, 1), api.ErrEntry)
	for at, said := range many().Tables {
		for what, turn := range map[string]func(h []api.Held) []api.Held{
			"none":                  func(h []api.Held) []api.Held { return nil },
			"one less":              func(h []api.Held) []api.Held { return h[:3] },
			"one more":              func(h []api.Held) []api.Held { return append(h, h[at]) },
			"turned round":          func(h []api.Held) []api.Held { slices.Reverse(h); return h },
			"no default":            func(h []api.Held) []api.Held { h[at].Default = api.Call{}; return h },
			"another action":        func(h []api.Held) []api.Held { h[at].Default.Action = "f"; return h },
			"an argument more":      func(h []api.Held) []api.Held { h[at].Default.Args = ns(1, 1); return h },
			"an argument too great": func(h []api.Held) []api.Held { h[at].Default.Args = ns(1 << 32); return h },
			"the other way round":   func(h []api.Held) []api.Held { slices.Reverse(h[at].Entries); return h },
			"two change places":     func(h []api.Held) []api.Held { l := h[at].Entries; l[3], l[4] = l[4], l[3]; return h },
			"the first two":         func(h []api.Held) []api.Held { l := h[at].Entries; l[0], l[1] = l[1], l[0]; return h },
			"the first one twice":   func(h []api.Held) []api.Held { h[at].Entries[1] = h[at].Entries[0]; return h },
			"the last one twice":    func(h []api.Held) []api.Held { h[at].Entries[3] = h[at].Entries[4]; return h },
			"twice, with two calls": func(h []api.Held) []api.Held {
				l := h[at].Entries
				l[1].Match = l[0].Match
				l[1].Priority = l[0].Priority
				return h
			},
			"a match less":           func(h []api.Held) []api.Held { l := h[at].Entries; l[2].Match = l[2].Match[:1]; return h },
			"a match too great":      func(h []api.Held) []api.Held { h[at].Entries[4].Match[0].Value.Hi = 1; return h },
			"a priority too great":   func(h []api.Held) []api.Held { h[at].Entries[0].Priority = api.MaxPriority + 1; return h },
			"an entry's action":      func(h []api.Held) []api.Held { h[at].Entries[0].Call.Action = "f"; return h },
			"an entry's arguments":   func(h []api.Held) []api.Held { h[at].Entries[4].Call.Args = nil; return h },
			"an argument of its own": func(h []api.Held) []api.Held { h[at].Entries[4].Call.Args = ns(1 << 32); return h },
		} {
			checkLoad(t, named(said.Name, ": ", what), many(), turn(heldOf(t)), api.ErrEntry)
		}
		for what, turn := range map[string]func(h *api.Held){
			"no entries":        func(h *api.Held) { h.Entries = nil },
			"empty":             func(h *api.Held) { h.Entries = []api.Entry{} },
			"one out":           func(h *api.Held) { h.Entries = slices.Delete(h.Entries, 2, 3) },
			"other calls":       func(h *api.Held) { h.Entries[1].Call.Args = ns(1<<32 - 1) },
			"the default again": func(h *api.Held) { h.Default = call("g", 99) },
		} {
			h := heldOf(t)
			turn(&h[at])
			checkLoad(t, named(said.Name, ": ", what), many(), h, api.OK)
		}
	}
}

// TestLoadUpToSize: as many entries as Size says, and one more.
func TestLoadUpToSize(t *testing.T) {
	for at, said := range many().Tables {
		list := append(fives()[said.Name], others()[said.Name]...)
		x := fresh(t, many())
		for _, e := range list[:6] {
			done(t, x, insert(said.Name, e))
		}
		checkLoad(t, said.Name, many(), x.All(), api.OK)
		s := many()
		s.Tables[at].Size = 7
		x = fresh(t, s)
		for _, e := range list[:7] {
			done(t, x, insert(said.Name, e))
		}
		checkLoad(t, said.Name, s, x.All(), api.OK)
		checkLoad(t, said.Name, many(), x.All(), api.ErrEntry)
	}
}

// TestLoadOfFixed: a table that is Fixed has the schema's default, also one that it could have.
func TestLoadOfFixed(t *testing.T) {
	for _, fixed := range []bool{false, true} {
		s := small()
		s.Tables[0].Fixed, s.Tables[0].Default = fixed, call("f", 7)
		other := api.OK
		if fixed {
			other = api.ErrEntry
		}
		for _, c := range []struct {
			call api.Call
			want api.Errno
		}{{call("f", 7), api.OK}, {call("f", 8), other}, {call("f", 6), other}, {call("g"), other}, {call("f", 512), api.ErrEntry}, {call("f"), api.ErrEntry}, {call("g", 7), api.ErrEntry}} {
			held := fresh(t, s).All()
			held[0].Default = c.call
			held[0].Entries = []api.Entry{inT(3, 0, 0, call("f", 9))}
			checkLoad(t, named(fixed, c.call), s, held, c.want)
		}
	}
	held := fresh(t, tiny()).All()
	held[3].Default = call("g") // as many arguments, but another action
	checkLoad(t, "another action", tiny(), held, api.ErrEntry)
	held = fresh(t, small()).All()
	held[1].Default.Args = []api.Bits{} // as good as none
	checkLoad(t, "empty arguments", small(), held, api.OK)
}

// TestLoadOfHuge: lists that no table could hold.
func TestLoadOfHuge(t *testing.T) {
	held := fresh(t, small()).All()
	held[0].Entries = make([]api.Entry, 1<<20)
	checkLoad(t, "entries that are none", small(), held, api.ErrEntry)
	for i := range held[0].Entries {
		held[0].Entries[i] = inT(uint64(i%256), uint64(i>>8)<<4, 12, call("g"))
	}
	checkLoad(t, "too many entries", small(), held, api.ErrEntry)
	checkLoad(t, "too many tables", small(), make([]api.Held, 1<<20), api.ErrEntry)
}

// TestSchemaAsItIsThen: what becomes of the schema, and of what was held, behind New and Load is not seen.
func TestSchemaAsItIsThen(t *testing.T) {
	s, held := small(), fresh(t, small()).All()
	held[0].Default = call("f", 3)
	held[0].Entries = []api.Entry{inT(1, 0x1200, 8, call("f", 5))}
	x := fresh(t, s)
	y, e := tables.Load(s, held)
	if e != api.OK {
		t.Fatal(e)
	}
	s.Headers[0].Fields[0].Width, s.Headers[0].Fields[1].Width = 4, 4
	s.Actions[0].Params[0].Width = 1
	s.Actions[1].Name = "x"
	for i := range s.Tables {
		s.Tables[i].Name, s.Tables[i].Size, s.Tables[i].Fixed = "x", 1, i == 0
		s.Tables[i].Keys[0], s.Tables[i].Keys[1] = api.Key{}, api.Key{}
		s.Tables[i].Actions[0] = "x"
		s.Tables[i].Default.Action = "x"
	}
	for _, h := range held {
		spoilHeld(h)
	}
	checkTable(t, y, "t", call("f", 3), inT(1, 0x1200, 8, call("f", 5)))
	for _, z := range []*tables.Set{x, y} {
		if !reflect.DeepEqual(z.Schema(), schema.Copy(small())) {
			t.Errorf("the schema is %v", z.Schema())
		}
		done(t, z, clearOf("t"), insert("t", inT(200, 0x1200, 8, call("f", 511))), insert("t", inT(200, 0x1200, 9, call("g"))), setDefault("t", call("f", 300)))
		checkDo(t, z, 0, api.ErrFull, insert("t", inT(1, 0, 0, call("g"))))
		checkDo(t, z, 0, api.ErrFixed, setDefault("u", call("g")))
		checkTable(t, z, "t", call("f", 300), inT(200, 0x1200, 9, call("g")), inT(200, 0x1200, 8, call("f", 511)))
		checkRefused(t, z, "x", nil, api.ErrTable)
		done(t, z, clearOf("t"))
		checkTable(t, z, "t", call("g"))
	}
}
