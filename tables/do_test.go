package tables_test

import (
	"math"
	"slices"
	"testing"

	"turnout/api"
	"turnout/match"
	"turnout/schema"
	"turnout/tables"
)

// P15.2

func TestBatch(t *testing.T) {
	x := fresh(t, small())
	checkDo(t, x, 0, api.ErrBatch)
	checkDo(t, x, 0, api.ErrBatch, []api.Op{}...)
	one := insert("t", inT(1, 0, 0, call("g")))
	for _, long := range []int{api.MaxBatch + 1, api.MaxBatch + 2, 1000, 1 << 20} {
		checkDo(t, x, 0, api.ErrBatch, slices.Repeat([]api.Op{one}, long)...)
		checkDo(t, x, 0, api.ErrBatch, make([]api.Op, long)...)
	}
	for _, long := range []int{1, 2, 3, 4, api.MaxBatch} {
		ops := []api.Op{one}
		for len(ops) < long {
			ops = append(ops, modify("t", inT(1, 0, 0, call("f", uint64(len(ops))))))
		}
		checkDo(t, x, 0, api.OK, ops...)
		checkDo(t, x, len(ops)-1, api.ErrDup, append(slices.Clone(ops[1:]), one)...)
		checkDo(t, x, 0, api.OK, remove("t", one.Entry))
	}
}

// wrongOps are operations that are not right for the small schema, each with its error; things that come later are wrong in most of them, too.
func wrongOps() map[api.Errno][]api.Op {
	op := func(kind int, table string, e api.Entry) api.Op { return api.Op{Kind: kind, Table: table, Entry: e} }
	args := api.Entry{Call: api.Call{Args: ns(0)}}
	action := api.Entry{Call: api.Call{Action: "g"}}
	matches := api.Entry{Match: make([]api.Match, 1)}
	priority, below := api.Entry{Priority: 1}, api.Entry{Priority: -1}
	x := call("x", 1, 2)
	right := inT(1, 0, 0, call("g"))
	list := map[api.Errno][]api.Op{
		api.ErrOp: {
			{}, op(0, "t", right), op(6, "t", right), op(-1, "t", right), op(math.MaxInt, "v", right), op(math.MinInt, "v", api.Entry{}), op(7, "t", api.Entry{}),
			op(api.Delete, "t", right), op(api.Delete, "v", args), op(api.Delete, "v", action), op(api.Delete, "u", inU(4, 3, 9, 5, 0)),
			op(api.Default, "v", matches), op(api.Default, "v", priority), op(api.Default, "v", below), op(api.Default, "t", right), op(api.Default, "u", inU(1, 1, 0, 9, 1)), op(api.Default, "t", entry(0, x, exactly(1))),
			op(api.Clear, "v", matches), op(api.Clear, "v", priority), op(api.Clear, "v", below), op(api.Clear, "v", args), op(api.Clear, "v", action), op(api.Clear, "t", right),
		},
		api.ErrTable: {
			clearOf("v"), clearOf(""), clearOf("T"), clearOf("t "), clearOf("h"), clearOf("g"), clearOf("k0"), clearOf("meta"),
			setDefault("v", call("g")), setDefault("v", x), insert("v", right), insert("v", api.Entry{Call: x, Priority: -1}), modify("v", right), remove("v", right), remove("", api.Entry{}),
		},
		api.ErrAction: {setDefault("t", api.Call{}), setDefault("t", call("x", 1)), setDefault("t", call("", 1)), setDefault("u", call("f", 1)), setDefault("u", call("f"))},
		api.ErrArgs:   {setDefault("t", call("f")), setDefault("t", call("f", 512)), setDefault("t", call("f", 1, 1)), setDefault("t", call("g", 0)), setDefault("u", call("g", 0)), setDefault("t", api.Call{Action: "f", Args: []api.Bits{{Hi: 1}}})},
	}
	addWrongEntries(list, x)
	return list
}

// addWrongEntries puts in those whose entry is wrong. To a Delete the calls don't matter.
func addWrongEntries(list map[api.Errno][]api.Op, x api.Call) {
	g := call("g")
	for code, entries := range map[api.Errno][]api.Entry{
		api.ErrKey: {
			{}, {Call: x, Priority: 3}, entry(1, x, exactly(1)), entry(0, g, exactly(1), begins(0, 0), exactly(0)), inT(256, 0, 0, g), inT(1, 0x1234, 8, x), inT(1, 0, 17, g), inT(1, 0, -1, g), inT(1, 0x10000, 16, g),
			entry(0, g, begins(0, 1), begins(0, 0)), entry(0, g, exactly(1), masked(0, 1)), entry(0, g, masked(1, 1), begins(0, 0)), entry(7, x, begins(0, 0), exactly(1)),
		},
		api.ErrPriority: {entry(1, g, exactly(1), begins(0, 0)), entry(-1, x, exactly(1), begins(0, 0)), entry(math.MaxInt, x, exactly(1), begins(0, 0))},
	} {
		for _, e := range entries {
			list[code] = append(list[code], insert("t", e), modify("t", e), remove("t", e))
		}
	}
	for code, entries := range map[api.Errno][]api.Entry{
		api.ErrKey:      {{}, {Call: x}, inU(4, 3, 5, 9, 7), inU(0, 0, 9, 5, 0), inU(0, 0x100, 5, 9, -1), inU(0, 0, 5, 0x10000, 7), entry(7, g, masked(0, 0)), entry(7, g, between(5, 9), masked(0, 0))},
		api.ErrPriority: {inU(0, 0, 5, 9, 0), inU(0, 0, 5, 9, -1), inU(0, 0, 5, 9, api.MaxPriority+1), inU(0, 0, 5, 9, math.MinInt), entry(0, x, masked(0, 0), between(5, 9))},
	} {
		for _, e := range entries {
			list[code] = append(list[code], insert("u", e), modify("u", e), remove("u", e))
		}
	}
	calls := map[api.Errno][]api.Call{api.ErrAction: {{}, x, call("", 1), call("h")}, api.ErrArgs: {call("f"), call("f", 512), call("f", 1, 2), call("g", 0)}}
	for code, some := range calls {
		for _, c := range some {
			list[code] = append(list[code], insert("t", inT(1, 0, 0, c)), modify("t", inT(1, 0, 0, c)), insert("t", inT(77, 0, 0, c)), modify("t", inT(77, 0, 0, c)))
		}
	}
	list[api.ErrAction] = append(list[api.ErrAction], insert("u", entry(1, call("f", 1), masked(0, 0), between(5, 9))))
	list[api.ErrArgs] = append(list[api.ErrArgs], modify("u", entry(1, call("g", 1), masked(0, 0), between(5, 9))))
}

// TestNotRight: by itself, and behind others; in tables that are empty, and in full ones, in which the same one is there.
func TestNotRight(t *testing.T) {
	empty, full := fresh(t, small()), fresh(t, small())
	done(t, full, insert("t", inT(1, 0, 0, call("g"))), insert("t", inT(2, 0, 0, call("g"))))
	for p := range 4 {
		done(t, full, insert("u", inU(0, 0, 5, 9, p+1)))
	}
	ahead := []api.Op{clearOf("u"), setDefault("t", call("f", 1)), clearOf("t"), insert("t", inT(9, 0, 0, call("g")))}
	for want, list := range wrongOps() {
		for _, op := range list {
			for _, x := range []*tables.Set{empty, full} {
				checkDo(t, x, 0, want, op)
				checkDo(t, x, 0, want, op, api.Op{}, op)
				checkDo(t, x, 4, want, slices.Concat(ahead, []api.Op{op, {}})...)
			}
		}
	}
}

// TestRightOfAll: in each table of a schema just those entries can be put in that match.Right takes, and just those calls be its default that schema.Call takes.
func TestRightOfAll(t *testing.T) {
	s := whole()
	for table, list := range map[string][]api.Entry{
		"route": {
			entry(0, call("none"), begins(0x0a000000, 8), exactly(6)), entry(0, call("out", 511), begins(0, 0), exactly(255)), entry(0, call("out", 512), begins(0, 0), exactly(255)),
			entry(0, call("hop", 1<<48-1, 1<<32-1, 5), begins(0xffffffff, 32), exactly(0)), entry(0, call("hop", 1<<48, 0, 5), begins(0xfffffffe, 32), exactly(0)),
			entry(0, call("grow", 1, 1), begins(0, 0), exactly(1)), entry(0, call("none"), begins(0x0a000001, 31), exactly(6)), entry(0, call("none"), begins(0, 33), exactly(6)), entry(0, call("none"), begins(0, 32), exactly(256)),
		},
		"acl": {
			entry(1, call("grow", 1, 255), between(0, 511), masked(0, 0), exactly(1), api.Match{Mask: most}), entry(1, call("grow", 2, 255), between(0, 511), masked(0, 0), exactly(0), api.Match{Mask: most}),
			entry(1, call("grow", 1, 255), between(0, 512), masked(0, 0), exactly(1), api.Match{Mask: most}), entry(1, call("out", 1), between(0, 511), masked(0, 1<<48), exactly(1), api.Match{Mask: most}),
			entry(1, call("out", 1), between(0, 511), masked(0, 0), exactly(2), api.Match{Mask: most}), entry(1<<24, call("out", 1), between(7, 7), masked(1, 1<<48-1), exactly(0), api.Match{Value: most, Mask: most}),
			entry(1, call("none"), between(7, 7), masked(1, 1<<48-1), exactly(0), api.Match{Value: most, Mask: most}),
		},
		"mac": {
			entry(0, call("none"), exactly(1<<48), exactly(0), exactly(0), exactly(0)), entry(0, call("none"), exactly(1), exactly(0), exactly(1<<48), exactly(0)), entry(0, call("none"), exactly(1), exactly(0), exactly(1), exactly(128)),
			entry(0, call("out", 1), exactly(1), exactly(0), exactly(1), exactly(127)), entry(0, call("none"), exactly(1<<48-1), api.Match{Value: most}, exactly(0), exactly(127)),
		},
		"long": {entry(0, call("none"), api.Match{Value: most, Len: 128}), entry(0, call("none"), api.Match{Value: most, Len: 127}), entry(0, call("hop", 1), begins(0, 0)), entry(0, call("out", 1), begins(0, 0))},
		"mask": {entry(3, call("none"), api.Match{Value: most, Mask: most}, masked(0, 0)), entry(3, call("none"), masked(1, 0), masked(0, 0)), entry(3, call("out", 1), masked(0, 0), masked(0, 0))},
	} {
		x := fresh(t, s)
		right := 0
		said, _, _ := schema.Table(s, table)
		for _, e := range list {
			want := match.Right(s, table, e)
			checkDo(t, x, 0, want, insert(table, e))
			if want == api.OK {
				right++
				checkDo(t, x, 0, api.OK, modify(table, e))
			}
			want = schema.Call(s, table, e.Call)
			if want == api.OK && said.Fixed {
				want = api.ErrFixed
			}
			checkDo(t, x, 0, want, setDefault(table, e.Call))
		}
		if x.Len(table) != right || right == 0 || right == len(list) {
			t.Errorf("%s: %d of %d, Len is %d", table, right, len(list), x.Len(table))
		}
	}
}

// What each kind does, in tables of each kind.

func TestInsert(t *testing.T) {
	for table, list := range fives() {
		x := fresh(t, many())
		for i, e := range list {
			again := copied(e)
			again.Call = call("g", 7)
			checkDo(t, x, 1, api.ErrDup, insert(table, again), insert(table, e))
			checkDo(t, x, 0, api.OK, insert(table, e))
			checkTable(t, x, table, call("g", 99), list[:i+1]...)
			checkDo(t, x, 0, api.ErrDup, insert(table, again))
			checkDo(t, x, 0, api.ErrDup, insert(table, e), api.Op{})
			checkDo(t, x, 1, api.ErrDup, insert(table, others()[table][1]), insert(table, e))
			checkDo(t, x, 2, api.ErrDup, clearOf(table), insert(table, e), insert(table, again))
		}
	}
}

// TestFull: there are Size entries: told behind that the same one is there.
func TestFull(t *testing.T) {
	for table, list := range fives() {
		x := filled(t)
		o := others()[table]
		checkDo(t, x, 1, api.ErrFull, insert(table, o[0]), insert(table, o[1]))
		checkTable(t, x, table, call("g", 99), list...)
		done(t, x, insert(table, o[1]))
		for _, e := range list {
			checkDo(t, x, 0, api.ErrDup, insert(table, e))
		}
		checkDo(t, x, 0, api.ErrDup, insert(table, o[1]))
		checkDo(t, x, 0, api.ErrFull, insert(table, o[0]))
		checkDo(t, x, 0, api.ErrFull, insert(table, o[2]))
		checkDo(t, x, 2, api.ErrFull, remove(table, list[2]), insert(table, o[2]), insert(table, list[2]))
		checkDo(t, x, 0, api.OK, remove(table, list[2]), insert(table, o[2]), remove(table, o[1]), insert(table, list[2]))
		checkDo(t, x, 0, api.ErrFull, insert(table, o[1]))
		checkDo(t, x, 7, api.ErrFull, clearOf(table), insert(table, o[0]), insert(table, o[1]), insert(table, list[0]), insert(table, list[1]), insert(table, list[2]), insert(table, list[3]), insert(table, o[2]))
		done(t, x, remove(table, o[2]))
		checkTable(t, x, table, call("g", 99), list...)
	}
}

// TestFullByAlike: entries that have their exact part, their prefix or their mask in common count, too, and those that have not.
func TestFullByAlike(t *testing.T) {
	e := func(table string, i uint64) api.Entry {
		g := call("g", i)
		switch table {
		case "x":
			return entry(0, g, exactly(7), exactly(i))
		case "p":
			return entry(0, g, exactly(i/3), begins(0x80, int(1+i%3)))
		case "q":
			return entry(0, g, begins(0x80, int(1+i%3)), exactly(i/3))
		}
		return entry(int(1+i%3), g, masked(1, 1), between(0, i/3))
	}
	for table := range fives() {
		x := fresh(t, many())
		for i := range uint64(6) {
			checkDo(t, x, 0, api.OK, insert(table, e(table, i)))
		}
		for i := uint64(6); i < 20; i++ {
			checkDo(t, x, 0, api.ErrFull, insert(table, e(table, i)))
		}
		if x.Len(table) != 6 {
			t.Errorf("%s: %d", table, x.Len(table))
		}
	}
}

func TestModify(t *testing.T) {
	for table, list := range fives() {
		x := filled(t)
		for i := range list {
			list[i].Call = call("g", uint64(100+i))
			checkDo(t, x, 0, api.OK, modify(table, list[i]))
			checkTable(t, x, table, call("g", 99), list...)
			other := copied(list[i])
			other.Call = call("g", 7)
			checkDo(t, x, 1, api.ErrAbsent, modify(table, other), modify(table, others()[table][0]))
			checkDo(t, x, 2, api.ErrAbsent, modify(table, other), remove(table, other), modify(table, other))
		}
		for _, e := range others()[table] {
			checkDo(t, x, 0, api.ErrAbsent, modify(table, e))
		}
		done(t, x, insert(table, others()[table][1])) // in a full table, too
		checkDo(t, x, 0, api.OK, modify(table, list[0]))
	}
}

func TestDelete(t *testing.T) {
	for table, list := range fives() {
		for i, e := range list {
			x := filled(t)
			checkDo(t, x, 0, api.OK, remove(table, e))
			checkTable(t, x, table, call("g", 99), slices.Delete(slices.Clone(list), i, i+1)...)
			checkDo(t, x, 0, api.ErrAbsent, remove(table, e))
			checkDo(t, x, 0, api.ErrAbsent, modify(table, e))
			checkDo(t, x, 1, api.ErrAbsent, insert(table, e), remove(table, others()[table][i%3]))
			checkDo(t, x, 2, api.ErrAbsent, insert(table, e), remove(table, e), remove(table, e))
			e.Call = call("g", 500)
			checkDo(t, x, 0, api.OK, insert(table, e))
			list := slices.Clone(list)
			list[i] = e
			checkTable(t, x, table, call("g", 99), list...)
			for k := range list {
				done(t, x, remove(table, list[k]))
			}
			checkTable(t, x, table, call("g", 99))
		}
	}
}

func TestDefault(t *testing.T) {
	x := filled(t)
	for i, said := range many().Tables {
		c := call("g", uint64(i))
		checkDo(t, x, 0, api.OK, setDefault(said.Name, c))
		checkTable(t, x, said.Name, c, fives()[said.Name]...)
		checkDo(t, x, 0, api.OK, setDefault(said.Name, c))
		checkDo(t, x, 2, api.ErrArgs, setDefault(said.Name, call("g", 5)), setDefault(said.Name, call("g", 6)), setDefault(said.Name, call("g")))
		checkTable(t, x, said.Name, c, fives()[said.Name]...)
	}
	for i, said := range many().Tables {
		checkTable(t, x, said.Name, call("g", uint64(i)), fives()[said.Name]...)
	}
}

// TestFixed: whatever the call is that the table can have; a Clear is well there.
func TestFixed(t *testing.T) {
	s := small()
	s.Tables[0].Fixed = true
	x := fresh(t, s)
	one := inT(1, 0, 0, call("f", 7))
	done(t, x, insert("t", one))
	for _, c := range []api.Call{call("g"), call("f", 0), call("f", 511)} {
		checkDo(t, x, 0, api.ErrFixed, setDefault("t", c))
		checkDo(t, x, 1, api.ErrFixed, clearOf("t"), setDefault("t", c))
	}
	checkDo(t, x, 0, api.ErrArgs, setDefault("t", call("f", 512)))
	checkDo(t, x, 0, api.ErrAction, setDefault("t", call("h")))
	checkDo(t, x, 0, api.ErrFixed, setDefault("u", call("g")))
	checkTable(t, x, "t", call("g"), one)
	checkDo(t, x, 0, api.OK, clearOf("t"))
	checkTable(t, x, "t", call("g"))
}

func TestClear(t *testing.T) {
	for _, said := range many().Tables {
		x := filled(t)
		for _, other := range many().Tables {
			done(t, x, setDefault(other.Name, call("g", 5)))
		}
		for range 2 {
			checkDo(t, x, 0, api.OK, clearOf(said.Name))
			checkTable(t, x, said.Name, said.Default)
		}
		for _, other := range many().Tables {
			if other.Name != said.Name {
				checkTable(t, x, other.Name, call("g", 5), fives()[other.Name]...)
			}
		}
		for _, e := range fives()[said.Name] {
			checkDo(t, x, 0, api.ErrAbsent, remove(said.Name, e))
		}
		checkDo(t, x, 0, api.OK, setDefault(said.Name, call("g", 6)), clearOf(said.Name), insert(said.Name, others()[said.Name][0]), clearOf(said.Name), insert(said.Name, others()[said.Name][1]))
		checkTable(t, x, said.Name, said.Default, others()[said.Name][1])
	}
}

// longBatch is a batch of all kinds of operations over all tables of many that hold their five entries, each table one by one.
func longBatch() []api.Op {
	var ops []api.Op
	for _, said := range many().Tables {
		table, l, o := said.Name, fives()[said.Name], others()[said.Name]
		again := copied(l[1])
		again.Call = call("g", 1000)
		ops = append(ops, insert(table, o[0]), setDefault(table, call("g", 1)), modify(table, again), remove(table, l[0]), remove(table, o[0]), remove(table, l[1]), insert(table, l[1]),
			clearOf(table), insert(table, o[1]), modify(table, o[1]), setDefault(table, call("g", 2)), insert(table, l[0]), clearOf(table), insert(table, l[2]))
	}
	return ops
}

// TestTakenBack: of a long batch, that ends with a wrong operation behind so many of it, nothing was done; without that it is what its operations do one by one.
func TestTakenBack(t *testing.T) {
	ops := longBatch()
	for cut := range len(ops) + 1 {
		x := filled(t)
		for what, wrong := range map[api.Errno]api.Op{
			api.ErrOp:     {},
			api.ErrTable:  clearOf("none"),
			api.ErrAbsent: remove("x", entry(0, api.Call{}, exactly(99), exactly(99))),
		} {
			checkDo(t, x, cut, what, slices.Concat(ops[:cut], []api.Op{wrong}, ops[cut:])...)
			checkSame(t, x, filled(t), true)
		}
		single := filled(t)
		if cut > 0 {
			checkDo(t, x, 0, api.OK, ops[:cut]...)
		}
		for _, op := range ops[:cut] {
			checkDo(t, single, 0, api.OK, op)
		}
		checkSame(t, x, single, true)
	}
}

// TestTurnedTablesAround: operations of one batch on several tables, by turns, taken back.
func TestTurnedTablesAround(t *testing.T) {
	ops := longBatch()
	each := len(ops) / 4
	var turns []api.Op
	for i := range each {
		for table := range 4 {
			turns = append(turns, ops[table*each+i])
		}
	}
	x, y := filled(t), filled(t)
	for cut := range turns {
		checkDo(t, x, cut, api.ErrOp, append(slices.Clone(turns[:cut]), api.Op{Kind: 9})...)
	}
	checkSame(t, x, y, true)
	done(t, x, turns...)
	done(t, y, ops...)
	checkSame(t, x, y, true)
}

// TestTryIsFree: a Try behind another one, and a Do behind many of them, answer as if these had not been.
func TestTryIsFree(t *testing.T) {
	x := filled(t)
	for table, list := range fives() {
		for range 3 {
			for _, ops := range [][]api.Op{{remove(table, list[0])}, {insert(table, others()[table][0])}, {clearOf(table)}, {setDefault(table, call("g", 3))}} {
				if at, e := x.Try(ops...); at != 0 || e != api.OK {
					t.Errorf("Try(%v): %d %d", ops, at, e)
				}
			}
			checkTable(t, x, table, call("g", 99), list...)
		}
	}
	checkSame(t, x, filled(t), true)
}
