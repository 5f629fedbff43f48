package tables_test

import (
	"fmt"
	"iter"
	"math"
	"reflect"
	"slices"
	"testing"

	"turnout/api"
	"turnout/match"
	"turnout/schema"
	"turnout/tables"
)

var most = api.Bits{Hi: math.MaxUint64, Lo: math.MaxUint64}

func ref(head, name string) api.Ref { return api.Ref{Head: head, Name: name} }

func n(x uint64) api.Bits { return api.Bits{Lo: x} }

// ns are values of small numbers.
func ns(list ...uint64) []api.Bits {
	var out []api.Bits
	for _, x := range list {
		out = append(out, n(x))
	}
	return out
}

func call(action string, args ...uint64) api.Call {
	return api.Call{Action: action, Args: ns(args...)}
}

// The matches of the four kinds, of small numbers.
func exactly(a uint64) api.Match          { return api.Match{Value: n(a)} }
func begins(a uint64, bits int) api.Match { return api.Match{Value: n(a), Len: bits} }
func masked(a, mask uint64) api.Match     { return api.Match{Value: n(a), Mask: n(mask)} }
func between(a, b uint64) api.Match       { return api.Match{Value: n(a), Mask: n(b)} }

func entry(priority int, c api.Call, matches ...api.Match) api.Entry {
	return api.Entry{Match: matches, Priority: priority, Call: c}
}

// inT is an entry of the small schema's table t.
func inT(a, b uint64, bits int, c api.Call) api.Entry {
	return entry(0, c, exactly(a), begins(b, bits))
}

// inU is an entry of the small schema's table u.
func inU(value, mask, from, to uint64, priority int) api.Entry {
	return entry(priority, call("g"), masked(value, mask), between(from, to))
}

// The operations.
func insert(table string, e api.Entry) api.Op {
	return api.Op{Kind: api.Insert, Table: table, Entry: e}
}
func modify(table string, e api.Entry) api.Op {
	return api.Op{Kind: api.Modify, Table: table, Entry: e}
}
func remove(table string, e api.Entry) api.Op {
	e.Call = api.Call{}
	return api.Op{Kind: api.Delete, Table: table, Entry: e}
}
func setDefault(table string, c api.Call) api.Op {
	return api.Op{Kind: api.Default, Table: table, Entry: api.Entry{Call: c}}
}
func clearOf(table string) api.Op { return api.Op{Kind: api.Clear, Table: table} }

// small is chapter 11's schema; each call makes a new one.
func small() api.Schema {
	a, b := ref("h", "a"), ref("h", "b")
	return api.Schema{
		Headers: []api.Header{{Name: "h", Fields: []api.Field{{Name: "a", Width: 8}, {Name: "b", Width: 16}}}},
		Actions: []api.Action{{Name: "f", Params: []api.Field{{Name: "p", Width: 9}}}, {Name: "g"}},
		Tables: []api.Table{
			{Name: "t", Keys: []api.Key{{Ref: a, Kind: api.Exact}, {Ref: b, Kind: api.Prefix}}, Actions: []string{"f", "g"}, Size: 2, Default: call("g")},
			{Name: "u", Keys: []api.Key{{Ref: a, Kind: api.Ternary}, {Ref: b, Kind: api.Range}}, Actions: []string{"g"}, Size: 4, Default: call("g"), Fixed: true},
		},
	}
}

// whole is a sound schema with something of everything.
func whole() api.Schema {
	return api.Schema{
		Headers: []api.Header{
			{Name: "eth", Fields: []api.Field{{Name: "dst", Width: 48}, {Name: "src", Width: 48}, {Name: "type", Width: 16}}},
			{Name: "ip", Fields: []api.Field{{Name: "ttl", Width: 8}, {Name: "proto", Width: 8}, {Name: "src", Width: 32}, {Name: "check", Width: 16}}},
			{Name: "opt", Fields: []api.Field{{Name: "a", Width: 3}, {Name: "b", Width: 128}, {Name: "c", Width: 5}}},
		},
		Meta: []api.Field{{Name: "port", Width: 9}, {Name: "mark", Width: 32}, {Name: "bit", Width: 1}, {Name: "k0", Width: 7}},
		States: []api.State{
			{Name: "first", Header: "eth", On: ref("eth", "type"), Cases: []api.Case{{Value: n(0x800), Mask: n(0xffff), Next: "second"}}, Next: "accept"},
			{Name: "second", Header: "ip", Next: "reject"},
		},
		Actions: []api.Action{
			{Name: "out", Params: []api.Field{{Name: "p", Width: 9}}, Steps: []api.Step{{Kind: api.StepSet, To: ref("meta", "port"), A: api.Operand{Ref: ref("", "p")}}}},
			{Name: "hop", Params: []api.Field{{Name: "d", Width: 48}, {Name: "m", Width: 32}, {Name: "b", Width: 128}}, Steps: []api.Step{{Kind: api.StepSum, To: ref("ip", "check")}}},
			{Name: "none", Steps: []api.Step{{Kind: api.StepDrop}}},
			{Name: "grow", Params: []api.Field{{Name: "x", Width: 1}, {Name: "y", Width: 8}}, Steps: []api.Step{{Kind: api.StepAdd, To: ref("opt", "")}}},
		},
		Tables: []api.Table{
			{Name: "route", Keys: []api.Key{{Ref: ref("ip", "src"), Kind: api.Prefix}, {Ref: ref("ip", "proto"), Kind: api.Exact}}, Actions: []string{"none", "out", "hop"}, Size: 64, Default: call("none")},
			{Name: "acl", Keys: []api.Key{{Ref: ref("meta", "port"), Kind: api.Range}, {Ref: ref("eth", "src"), Kind: api.Ternary}, {Ref: ref("meta", "bit"), Kind: api.Exact}, {Ref: ref("opt", "b"), Kind: api.Range}}, Actions: []string{"grow", "out"}, Size: 4096, Default: call("out", 511), Fixed: true},
			{Name: "mac", Keys: []api.Key{{Ref: ref("eth", "dst"), Kind: api.Exact}, {Ref: ref("opt", "b"), Kind: api.Exact}, {Ref: ref("eth", "dst"), Kind: api.Exact}, {Ref: ref("meta", "k0"), Kind: api.Exact}}, Actions: []string{"hop", "none"}, Size: 1, Default: call("hop", 1<<40, 2, 3)},
			{Name: "long", Keys: []api.Key{{Ref: ref("opt", "b"), Kind: api.Prefix}}, Actions: []string{"none", "out"}, Size: 12, Default: call("none")},
			{Name: "mask", Keys: []api.Key{{Ref: ref("opt", "b"), Kind: api.Ternary}, {Ref: ref("opt", "b"), Kind: api.Ternary}}, Actions: []string{"none", "grow"}, Size: 9, Default: call("none")},
		},
		Control: []api.Stage{{Kind: api.StageApply, Table: "route", Then: []api.Stage{{Kind: api.StageApply, Table: "acl"}}, Else: []api.Stage{{Kind: api.StageExit}}}},
	}
}

// many is a schema with a table of each kind, two of the kind Prefix, of 6 entries each; their action is g, of one number of 32 bits.
func many() api.Schema {
	a, b := ref("meta", "a"), ref("meta", "b")
	table := func(name string, one, two int) api.Table {
		return api.Table{Name: name, Keys: []api.Key{{Ref: a, Kind: one}, {Ref: b, Kind: two}}, Actions: []string{"g"}, Size: 6, Default: call("g", 99)}
	}
	return api.Schema{
		Meta:    []api.Field{{Name: "a", Width: 8}, {Name: "b", Width: 8}},
		Actions: []api.Action{{Name: "g", Params: []api.Field{{Name: "p", Width: 32}}}},
		Tables:  []api.Table{table("x", api.Exact, api.Exact), table("p", api.Exact, api.Prefix), table("q", api.Prefix, api.Exact), table("r", api.Ternary, api.Range)},
	}
}

// fives are five entries, in their order, of each table of many; what they call tells their number.
func fives() map[string][]api.Entry {
	all := byte(255)
	list := map[string][]api.Entry{
		"x": {entry(0, api.Call{}, exactly(1), exactly(2)), entry(0, api.Call{}, exactly(1), exactly(9)), entry(0, api.Call{}, exactly(3), exactly(0)), entry(0, api.Call{}, exactly(3), exactly(1)), entry(0, api.Call{}, exactly(200), exactly(7))},
		"p": {entry(0, api.Call{}, exactly(1), begins(0xa5, 8)), entry(0, api.Call{}, exactly(1), begins(0xa0, 4)), entry(0, api.Call{}, exactly(1), begins(0, 0)), entry(0, api.Call{}, exactly(2), begins(0x40, 2)), entry(0, api.Call{}, exactly(2), begins(0x80, 2))},
		"q": {entry(0, api.Call{}, begins(0xa5, 8), exactly(1)), entry(0, api.Call{}, begins(0x10, 4), exactly(2)), entry(0, api.Call{}, begins(0xa0, 4), exactly(1)), entry(0, api.Call{}, begins(0xa0, 4), exactly(3)), entry(0, api.Call{}, begins(0, 0), exactly(1))},
		"r": {entry(9, api.Call{}, masked(1, 1), between(0, 9)), entry(7, api.Call{}, masked(0, 0), between(2, 9)), entry(7, api.Call{}, masked(0, 1), between(0, 9)), entry(7, api.Call{}, masked(1, 1), between(0, 9)), entry(1, api.Call{}, masked(0, 0), between(0, uint64(all)))},
	}
	for _, l := range list {
		for i := range l {
			l[i].Call = call("g", uint64(i))
		}
	}
	return list
}

// others are entries of each table of many that are not among its five: one that stands ahead of them, one between, one behind.
func others() map[string][]api.Entry {
	g := call("g", 50)
	return map[string][]api.Entry{
		"x": {entry(0, g, exactly(1), exactly(1)), entry(0, g, exactly(2), exactly(255)), entry(0, g, exactly(200), exactly(8))},
		"p": {entry(0, g, exactly(0), begins(0, 0)), entry(0, g, exactly(1), begins(0x80, 1)), entry(0, g, exactly(3), begins(0, 8))},
		"q": {entry(0, g, begins(0xa4, 8), exactly(1)), entry(0, g, begins(0xa0, 4), exactly(2)), entry(0, g, begins(0, 0), exactly(2))},
		"r": {entry(10, g, masked(0, 0), between(5, 6)), entry(7, g, masked(0, 1), between(0, 10)), entry(1, g, masked(0, 0), between(1, 1))},
	}
}

// fresh is a set as New lays it.
func fresh(t *testing.T, s api.Schema) *tables.Set {
	t.Helper()
	x, e := tables.New(s)
	if x == nil || e != api.OK {
		t.Fatalf("New: %v %d", x, e)
	}
	return x
}

// filled is a set of many, whose tables hold their five entries, put in in another order.
func filled(t *testing.T) *tables.Set {
	t.Helper()
	x := fresh(t, many())
	for table, list := range fives() {
		for _, i := range []int{3, 0, 4, 2, 1} {
			done(t, x, insert(table, list[i]))
		}
	}
	return x
}

// done does a batch that can be done.
func done(t *testing.T, x *tables.Set, ops ...api.Op) {
	t.Helper()
	if at, e := x.Do(ops...); at != 0 || e != api.OK {
		t.Errorf("Do(%v): %d %d", ops, at, e)
	}
}

// checkDo holds what Do and Try answer against what is wanted. A Try changes nothing, nor does a Do that is refused.
func checkDo(t *testing.T, x *tables.Set, at int, want api.Errno, ops ...api.Op) {
	t.Helper()
	was := x.All()
	if k, e := x.Try(ops...); k != at || e != want {
		t.Errorf("Try(%v) is %d %d, not %d %d", some(ops), k, e, at, want)
	}
	checkHeld(t, "behind Try", x.All(), was)
	if k, e := x.Do(ops...); k != at || e != want {
		t.Errorf("Do(%v) is %d %d, not %d %d", some(ops), k, e, at, want)
	}
	if want != api.OK {
		checkHeld(t, "behind a Do that is refused", x.All(), was)
	}
}

// checkTable: all that is told of one table.
func checkTable(t *testing.T, x *tables.Set, table string, c api.Call, entries ...api.Entry) {
	t.Helper()
	want := api.Held{Default: c, Entries: entries}
	h, e := x.Held(table)
	if e != api.OK {
		t.Errorf("Held(%q): %d", table, e)
	}
	checkHeld(t, "Held", []api.Held{h}, []api.Held{want})
	_, at, _ := schema.Table(x.Schema(), table)
	checkHeld(t, "All", x.All()[at:at+1], []api.Held{want})
	checkEntries(t, "Entries", collected(t, x.Entries(table)), entries)
	if x.Len(table) != len(entries) {
		t.Errorf("Len(%q) is %d, not %d", table, x.Len(table), len(entries))
	}
}

// checkLookup: no entry: the default call.
func checkLookup(t *testing.T, x *tables.Set, table string, key []api.Bits, c api.Call, entries ...api.Entry) {
	t.Helper()
	want := api.Hit{Table: table, Call: c}
	if len(entries) > 0 {
		want.Found, want.Entry = true, entries[0]
	}
	h, e := x.Lookup(table, key...)
	if e != api.OK || h.Table != table || h.Found != want.Found || !alike(h.Entry, want.Entry) || !alikeCalls(h.Call, c) {
		t.Errorf("Lookup(%q, %v) is %v %d, not %v", table, key, h, e, want)
	}
	if !h.Found && !reflect.DeepEqual(h.Entry, api.Entry{}) {
		t.Errorf("Lookup(%q, %v): an entry, but none is found: %v", table, key, h.Entry)
	}
}

func checkRefused(t *testing.T, x *tables.Set, table string, key []api.Bits, want api.Errno) {
	t.Helper()
	if h, e := x.Lookup(table, key...); e != want || !reflect.DeepEqual(h, api.Hit{}) {
		t.Errorf("Lookup(%q, %v) is %v %d, not %d", table, some(key), h, e, want)
	}
}

func checkHeld(t *testing.T, what string, got, want []api.Held) {
	t.Helper()
	if !slices.EqualFunc(got, want, alikeHeld) {
		t.Errorf("%s: %v, not %v", what, some(got), some(want))
	}
}

func checkEntries(t *testing.T, what string, got, want []api.Entry) {
	t.Helper()
	if !slices.EqualFunc(got, want, alike) {
		t.Errorf("%s: %v, not %v", what, some(got), some(want))
	}
}

// checkSame: Same, both ways round.
func checkSame(t *testing.T, a, b *tables.Set, want bool) {
	t.Helper()
	if a.Same(b) != want || b.Same(a) != want {
		t.Errorf("Same is %v %v, not %v", a.Same(b), b.Same(a), want)
	}
}

func alikeHeld(a, b api.Held) bool {
	return alikeCalls(a.Default, b.Default) && slices.EqualFunc(a.Entries, b.Entries, alike)
}

// alike: two entries are the same one and have the same call.
func alike(a, b api.Entry) bool { return match.Same(a, b) && alikeCalls(a.Call, b.Call) }

func alikeCalls(a, b api.Call) bool { return a.Action == b.Action && slices.Equal(a.Args, b.Args) }

// collected is what an iterator tells.
func collected(t *testing.T, all iter.Seq[api.Entry]) []api.Entry {
	t.Helper()
	if all == nil {
		t.Fatal("no iterator")
	}
	return slices.Collect(all)
}

// copied is an entry in new memory.
func copied(e api.Entry) api.Entry {
	e.Match, e.Call.Args = slices.Clone(e.Match), slices.Clone(e.Call.Args)
	return e
}

// spoil changes all that an entry's lists have, their spare room too.
func spoil(e api.Entry) {
	m := e.Match[:cap(e.Match)]
	for i := range m {
		m[i] = api.Match{Value: n(99), Mask: n(98), Len: 97}
	}
	spoilCall(e.Call)
}

func spoilCall(c api.Call) {
	args := c.Args[:cap(c.Args)]
	for i := range args {
		args[i] = n(96)
	}
}

// spoilHeld changes all that what is held has.
func spoilHeld(h api.Held) {
	spoilCall(h.Default)
	list := h.Entries[:cap(h.Entries)]
	for i, e := range list {
		spoil(e)
		list[i] = api.Entry{Priority: 9}
	}
}

// some is a list that is not too long for a message.
func some[T any](list []T) []T { return list[:min(len(list), 20)] }

// named is a short name for a case.
func named(what ...any) string { return fmt.Sprint(what...) }
