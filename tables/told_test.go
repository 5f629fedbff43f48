package tables_test

import (
	"math"
	"reflect"
	"slices"
	"testing"

	"turnout/api"
	"turnout/schema"
	"turnout/tables"
)

// P15.3

// TestLookupOfKind: in a table of each kind the entry that answers.
func TestLookupOfKind(t *testing.T) {
	x := filled(t)
	c := call("g", 99)
	at := func(table string, i int) api.Entry { return fives()[table][i] }
	for _, ask := range []struct {
		table string
		key   []api.Bits
		entry int // below 0: none
	}{
		{"x", ns(1, 2), 0}, {"x", ns(1, 9), 1}, {"x", ns(3, 0), 2}, {"x", ns(3, 1), 3}, {"x", ns(200, 7), 4},
		{"x", ns(2, 1), -1}, {"x", ns(1, 0), -1}, {"x", ns(0, 2), -1}, {"x", ns(9, 1), -1}, {"x", ns(255, 255), -1}, {"x", ns(0, 0), -1},
		{"p", ns(1, 0xa5), 0}, {"p", ns(1, 0xa4), 1}, {"p", ns(1, 0xaf), 1}, {"p", ns(1, 0xb0), 2}, {"p", ns(1, 0), 2}, {"p", ns(2, 0x40), 3}, {"p", ns(2, 0x7f), 3}, {"p", ns(2, 0xbf), 4},
		{"p", ns(2, 0xc0), -1}, {"p", ns(2, 0), -1}, {"p", ns(0, 0xa5), -1}, {"p", ns(3, 0x40), -1},
		{"q", ns(0xa5, 1), 0}, {"q", ns(0x1f, 2), 1}, {"q", ns(0xa4, 1), 2}, {"q", ns(0xa5, 3), 3}, {"q", ns(0x1f, 1), 4}, {"q", ns(0, 1), 4},
		{"q", ns(0xa5, 2), -1}, {"q", ns(0x20, 2), -1}, {"q", ns(0x1f, 3), -1}, {"q", ns(0xa5, 0), -1},
		{"r", ns(1, 0), 0}, {"r", ns(255, 9), 0}, {"r", ns(0, 2), 1}, {"r", ns(0, 1), 2}, {"r", ns(2, 0), 2}, {"r", ns(1, 10), 4}, {"r", ns(0, 255), 4},
	} {
		if ask.entry < 0 {
			checkLookup(t, x, ask.table, ask.key, c)
		} else {
			e := at(ask.table, ask.entry)
			checkLookup(t, x, ask.table, ask.key, e.Call, e)
		}
	}
	done(t, x, remove("r", at("r", 4)), setDefault("r", call("g", 5)))
	checkLookup(t, x, "r", ns(1, 10), call("g", 5))
	done(t, x, remove("p", at("p", 0)), remove("p", at("p", 1)))
	checkLookup(t, x, "p", ns(1, 0xa5), call("g", 2), at("p", 2))
	done(t, x, clearOf("p"))
	checkLookup(t, x, "p", ns(1, 0xa5), c)
}

// TestLookupOfNothing: the default call, that of the schema or another one; ahead of all entries and behind them.
func TestLookupOfNothing(t *testing.T) {
	x := fresh(t, whole())
	keys := map[string][]api.Bits{"route": ns(1, 1), "acl": ns(1, 1, 1, 1), "mac": ns(1, 1, 1, 1), "long": {most}, "mask": {most, n(0)}}
	for _, said := range whole().Tables {
		checkLookup(t, x, said.Name, keys[said.Name], said.Default)
	}
	done(t, x, setDefault("route", call("hop", 7, 8, 9)), setDefault("mac", call("none")))
	checkLookup(t, x, "route", keys["route"], call("hop", 7, 8, 9))
	checkLookup(t, x, "mac", keys["mac"], call("none"))
	done(t, x, clearOf("route"), clearOf("mac"))
	checkLookup(t, x, "route", keys["route"], call("none"))
	checkLookup(t, x, "mac", keys["mac"], call("hop", 1<<40, 2, 3))
}

// TestFoundWithTheDefaultsCall: that an entry was found is told, also where its call is the default one.
func TestFoundWithTheDefaultsCall(t *testing.T) {
	for table, list := range fives() {
		x := fresh(t, many())
		e := list[0]
		e.Call = call("g", 99)
		done(t, x, insert(table, e))
		checkLookup(t, x, table, []api.Bits{e.Match[0].Value, e.Match[1].Value}, e.Call, e)
	}
}

// TestNoKey: as many values as the key has parts, each of which fits its part; asked behind the table.
func TestNoKey(t *testing.T) {
	x := filled(t)
	for table := range fives() {
		for _, key := range [][]api.Bits{
			nil, {}, ns(1), ns(1, 2, 0), ns(1, 2, 3, 4, 5, 6, 7, 8), ns(256, 2), ns(1, 256), ns(257, 2), {n(1), {Hi: 1, Lo: 2}}, {most, most}, {{Hi: 1 << 63, Lo: 1}, n(2)}, make([]api.Bits, 1000),
		} {
			checkRefused(t, x, table, key, api.ErrKey)
			checkRefused(t, fresh(t, many()), table, key, api.ErrKey)
			checkRefused(t, x, table+"x", key, api.ErrTable)
		}
		checkLookup(t, fresh(t, many()), table, ns(255, 255), call("g", 99))
	}
	y := fresh(t, whole())
	for table, key := range map[string][]api.Bits{"acl": {n(511), n(1<<48 - 1), n(1), most}, "mac": {n(1<<48 - 1), most, n(1<<48 - 1), n(127)}, "route": {n(1<<32 - 1), n(255)}} {
		_, at, _ := schema.Table(whole(), table)
		checkLookup(t, y, table, key, whole().Tables[at].Default)
		for i := range key {
			if key[i] != most {
				more := slices.Clone(key)
				more[i].Lo++
				checkRefused(t, y, table, more, api.ErrKey)
			}
		}
	}
	for _, name := range []string{"", "v", "T", "h", "g", "k0", "meta", "t\x00"} {
		checkRefused(t, fresh(t, small()), name, ns(1, 1), api.ErrTable)
	}
}

// P15.4

func TestHeldOfNone(t *testing.T) {
	x := filled(t)
	for _, name := range []string{"", "v", "X", "x ", "g", "meta", "a"} {
		if h, e := x.Held(name); e != api.ErrTable || !reflect.DeepEqual(h, api.Held{}) {
			t.Errorf("Held(%q): %v %d", name, h, e)
		}
		if x.Len(name) != 0 {
			t.Errorf("Len(%q) is %d", name, x.Len(name))
		}
		checkEntries(t, name, collected(t, x.Entries(name)), nil)
	}
	if len(fresh(t, api.Schema{}).All()) != 0 {
		t.Error("All of no tables")
	}
}

// TestOrderOfAll: tables in the schema's order, entries in chapter 11's, by whatever order they came.
func TestOrderOfAll(t *testing.T) {
	x := filled(t)
	for i, h := range x.All() {
		said := many().Tables[i]
		checkHeld(t, said.Name, []api.Held{h}, []api.Held{{Default: said.Default, Entries: fives()[said.Name]}})
	}
	for table, list := range fives() {
		o := others()[table]
		for at, want := range [][]api.Entry{slices.Insert(slices.Clone(list), 0, o[0]), nil, append(slices.Clone(list), o[2])} {
			if want == nil {
				continue
			}
			x := filled(t)
			done(t, x, insert(table, o[at]))
			checkTable(t, x, table, call("g", 99), want...)
		}
		x := filled(t)
		done(t, x, insert(table, o[1]))
		got := collected(t, x.Entries(table))
		if alike(got[0], o[1]) || alike(got[5], o[1]) {
			t.Errorf("%s: it does not stand between: %v", table, got)
		}
	}
}

// TestOrderOfGreatWidths: values of more than one byte, and of more than 64 bits, stand by their numbers.
func TestOrderOfGreatWidths(t *testing.T) {
	s := whole()
	s.Tables[2].Size = 99
	x := fresh(t, s)
	var list []api.Entry
	for _, a := range []uint64{0, 1, 255, 256, 257, 65535, 65536, 1<<48 - 1} {
		for _, b := range []api.Bits{{}, {Lo: 1}, {Lo: 256}, {Lo: math.MaxUint64}, {Hi: 1}, {Hi: 256}, most} {
			list = append(list, entry(0, call("none"), exactly(a), api.Match{Value: b}, exactly(3), exactly(127)))
		}
	}
	for i := range list {
		done(t, x, insert("mac", list[i*13%len(list)]))
	}
	checkTable(t, x, "mac", call("hop", 1<<40, 2, 3), list...)
}

func TestSchema(t *testing.T) {
	for _, s := range []api.Schema{small(), whole(), many(), {}} {
		x := fresh(t, s)
		if !reflect.DeepEqual(x.Schema(), schema.Copy(s)) || !reflect.DeepEqual(x.Copy().Schema(), schema.Copy(s)) {
			t.Errorf("%v", x.Schema())
		}
	}
}

// TestSameByWhat: each thing that is unlike, by itself.
func TestSameByWhat(t *testing.T) {
	checkSame(t, filled(t), filled(t), true)
	for table, list := range fives() {
		again := copied(list[3])
		again.Call = call("g", 77)
		for what, ops := range map[string][]api.Op{
			"one less":           {remove(table, list[3])},
			"one more":           {insert(table, others()[table][1])},
			"another one":        {remove(table, list[3]), insert(table, others()[table][1])},
			"another call":       {modify(table, again)},
			"another default":    {setDefault(table, call("g", 98))},
			"cleared":            {clearOf(table)},
			"another last one":   {remove(table, list[4]), insert(table, others()[table][2])},
			"another first one":  {remove(table, list[0]), insert(table, others()[table][0])},
			"another first call": {remove(table, list[0]), insert(table, entry(list[0].Priority, call("g", 5), list[0].Match...))},
		} {
			x := filled(t)
			done(t, x, ops...)
			checkSame(t, x, x, true)
			checkSame(t, x, filled(t), false)
			if t.Failed() {
				t.Fatal(table, what)
			}
		}
	}
}

// TestSameOfSchemas: sets of unlike schemas are not the same, also where they hold the same.
func TestSameOfSchemas(t *testing.T) {
	for what, turn := range map[string]func(s *api.Schema){
		"another name":      func(s *api.Schema) { s.Tables[0].Name = "v" },
		"another size":      func(s *api.Schema) { s.Tables[0].Size = 3 },
		"another kind":      func(s *api.Schema) { s.Tables[0].Keys[0].Kind = api.Prefix; s.Tables[0].Keys[1].Kind = api.Exact },
		"another width":     func(s *api.Schema) { s.Headers[0].Fields[0].Width = 16 },
		"fixed":             func(s *api.Schema) { s.Tables[0].Fixed = true },
		"actions":           func(s *api.Schema) { s.Tables[1].Actions = []string{"g", "f"} },
		"a step":            func(s *api.Schema) { s.Actions[1].Steps = []api.Step{{Kind: api.StepDrop}} },
		"the metadata":      func(s *api.Schema) { s.Meta = []api.Field{{Name: "m", Width: 1}} },
		"the control":       func(s *api.Schema) { s.Control = []api.Stage{{Kind: api.StageExit}} },
		"a state":           func(s *api.Schema) { s.States = []api.State{{Name: "s", Header: "h", Next: "accept"}} },
		"one table less":    func(s *api.Schema) { s.Tables = s.Tables[:1] },
		"tables by turns":   func(s *api.Schema) { slices.Reverse(s.Tables) },
		"the empty schema":  func(s *api.Schema) { *s = api.Schema{} },
		"a header more":     func(s *api.Schema) { s.Headers = append(s.Headers, api.Header{Name: "i", Fields: s.Headers[0].Fields}) },
		"another parameter": func(s *api.Schema) { s.Actions[0].Params[0].Name = "q" },
	} {
		s := small()
		turn(&s)
		checkSame(t, fresh(t, s), fresh(t, small()), false)
		checkSame(t, fresh(t, s), fresh(t, s), true)
		if t.Failed() {
			t.Fatal(what)
		}
	}
	empty := small()
	empty.States, empty.Control, empty.Tables[0].Default.Args = []api.State{}, []api.Stage{}, []api.Bits{}
	checkSame(t, fresh(t, empty), fresh(t, small()), true) // nil and empty are one
}

// TestSameOfActions: calls that are unlike in their actions alone.
func TestSameOfActions(t *testing.T) {
	for _, said := range tiny().Tables {
		op := tinyOps(said)[2]
		x, y := fresh(t, tiny()), fresh(t, tiny())
		done(t, x, op)
		done(t, y, op)
		checkSame(t, x, y, true)
		op.Entry.Call = call("d")
		done(t, y, modify(said.Name, op.Entry))
		checkSame(t, x, y, false)
		if !said.Fixed {
			z := fresh(t, tiny())
			done(t, z, setDefault(said.Name, call("g")))
			checkSame(t, z, fresh(t, tiny()), false)
		}
	}
}

// TestSameWithEmptyArguments: nil and empty are one in what is done, too.
func TestSameWithEmptyArguments(t *testing.T) {
	x, y := fresh(t, small()), fresh(t, small())
	empty := api.Call{Action: "g", Args: []api.Bits{}}
	done(t, x, insert("t", inT(1, 0, 0, empty)), setDefault("t", empty))
	done(t, y, insert("t", inT(1, 0, 0, call("g"))), setDefault("t", call("g")))
	checkSame(t, x, y, true)
	done(t, x, api.Op{Kind: api.Delete, Table: "t", Entry: inT(1, 0, 0, api.Call{Args: []api.Bits{}})})
	done(t, x, api.Op{Kind: api.Default, Table: "t", Entry: api.Entry{Match: []api.Match{}, Call: call("f", 1)}})
	done(t, x, api.Op{Kind: api.Clear, Table: "t", Entry: api.Entry{Match: []api.Match{}, Call: api.Call{Args: []api.Bits{}}}})
	checkSame(t, x, fresh(t, small()), true)
}

func TestCopy(t *testing.T) {
	for table, list := range fives() {
		x := filled(t)
		c := x.Copy()
		checkSame(t, x, c, true)
		again := copied(list[1])
		again.Call = call("g", 77)
		ops := []api.Op{modify(table, again), remove(table, list[2]), insert(table, others()[table][1]), setDefault(table, call("g", 5))}
		done(t, c, ops...)
		checkSame(t, x, filled(t), true)
		checkTable(t, x, table, call("g", 99), list...)
		y := filled(t)
		done(t, y, ops...)
		checkSame(t, c, y, true)
		done(t, x, clearOf(table))
		checkSame(t, c, y, true)
		done(t, x, insert(table, others()[table][0]))
		checkSame(t, c, y, true)
		d := c.Copy().Copy()
		done(t, c, clearOf(table))
		checkSame(t, d, y, true)
		done(t, d, insert(table, list[2]))
		checkDo(t, d, 0, api.ErrFull, insert(table, others()[table][0])) // the same Size
	}
}

// TestCopyOfOneByOne: each operation alone, on the one and on the other.
func TestCopyOfOneByOne(t *testing.T) {
	ops := longBatch()
	for at := range ops {
		x := filled(t)
		if at > 0 {
			done(t, x, ops[:at]...)
		}
		was := x.All()
		c := x.Copy()
		done(t, c, ops[at])
		checkHeld(t, "the first one", x.All(), was)
		is := c.All()
		done(t, x, ops[at:]...)
		checkHeld(t, "the copy", c.All(), is)
	}
}

// TestNil: a nil set answers zero values and does nothing; what has an error: ErrArg, ahead of all else.
func TestNil(t *testing.T) {
	var x *tables.Set
	one := insert("t", inT(1, 0, 0, call("g")))
	for _, ops := range [][]api.Op{nil, {}, {one}, {{}}, make([]api.Op, 65), {one, {Kind: 9}}} {
		for what, do := range map[string]func(...api.Op) (int, api.Errno){"Do": x.Do, "Try": x.Try} {
			if at, e := do(ops...); at != 0 || e != api.ErrArg {
				t.Errorf("%s: %d %d", what, at, e)
			}
		}
	}
	for _, name := range []string{"", "t", "v"} {
		checkRefused(t, x, name, nil, api.ErrArg)
		checkRefused(t, x, name, ns(1, 1), api.ErrArg)
		if h, e := x.Held(name); e != api.ErrArg || !reflect.DeepEqual(h, api.Held{}) {
			t.Errorf("Held: %v %d", h, e)
		}
		checkEntries(t, "Entries", collected(t, x.Entries(name)), nil)
		if x.Len(name) != 0 {
			t.Errorf("Len: %d", x.Len(name))
		}
	}
	if x.All() != nil || !reflect.DeepEqual(x.Schema(), api.Schema{}) || x.Copy() != nil {
		t.Error("All, Schema or Copy")
	}
	if !x.Same(nil) || !x.Same(x) {
		t.Error("both are nil")
	}
	checkSame(t, x, fresh(t, small()), false)
	checkSame(t, x, fresh(t, api.Schema{}), false)
}
