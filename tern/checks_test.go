package tern_test

import (
	"fmt"
	"iter"
	"math"
	"reflect"
	"slices"
	"testing"

	"turnout/api"
	"turnout/match"
	"turnout/schema"
	"turnout/tern"
)

var most = api.Bits{Hi: math.MaxUint64, Lo: math.MaxUint64}

func ref(head, name string) api.Ref { return api.Ref{Head: head, Name: name} }

func n(x uint64) api.Bits { return api.Bits{Lo: x} }

// ns are values of small numbers.
func ns(list ...uint64) []api.Bits {
	var out []api.Bits
	for _, x := range list {
		out = append(out, n(x))
	}
	return out
}

func call(action string, args ...uint64) api.Call {
	return api.Call{Action: action, Args: ns(args...)}
}

// The matches of the four kinds, of small numbers.
func exactly(a uint64) api.Match          { return api.Match{Value: n(a)} }
func begins(a uint64, bits int) api.Match { return api.Match{Value: n(a), Len: bits} }
func masked(a, mask uint64) api.Match     { return api.Match{Value: n(a), Mask: n(mask)} }
func between(a, b uint64) api.Match       { return api.Match{Value: n(a), Mask: n(b)} }

func entry(priority int, c api.Call, matches ...api.Match) api.Entry {
	return api.Entry{Match: matches, Priority: priority, Call: c}
}

// inU is an entry of the small schema's table u.
func inU(value, mask, from, to uint64, priority int) api.Entry {
	return entry(priority, call("g"), masked(value, mask), between(from, to))
}

// small is chapter 11's schema; each call makes a new one.
func small() api.Schema {
	a, b := ref("h", "a"), ref("h", "b")
	return api.Schema{
		Headers: []api.Header{{Name: "h", Fields: []api.Field{{Name: "a", Width: 8}, {Name: "b", Width: 16}}}},
		Actions: []api.Action{{Name: "f", Params: []api.Field{{Name: "p", Width: 9}}}, {Name: "g"}},
		Tables: []api.Table{
			{Name: "t", Keys: []api.Key{{Ref: a, Kind: api.Exact}, {Ref: b, Kind: api.Prefix}}, Actions: []string{"f", "g"}, Size: 2, Default: call("g")},
			{Name: "u", Keys: []api.Key{{Ref: a, Kind: api.Ternary}, {Ref: b, Kind: api.Range}}, Actions: []string{"g"}, Size: 4, Default: call("g"), Fixed: true},
		},
	}
}

// whole is a sound schema with something of everything.
func whole() api.Schema {
	return api.Schema{
		Headers: []api.Header{
			{Name: "eth", Fields: []api.Field{{Name: "dst", Width: 48}, {Name: "src", Width: 48}, {Name: "type", Width: 16}}},
			{Name: "ip", Fields: []api.Field{{Name: "ttl", Width: 8}, {Name: "proto", Width: 8}, {Name: "src", Width: 32}, {Name: "check", Width: 16}}},
			{Name: "opt", Fields: []api.Field{{Name: "a", Width: 3}, {Name: "b", Width: 128}, {Name: "c", Width: 5}}},
		},
		Meta: []api.Field{{Name: "port", Width: 9}, {Name: "mark", Width: 32}, {Name: "bit", Width: 1}},
		States: []api.State{
			{Name: "first", Header: "eth", On: ref("eth", "type"), Cases: []api.Case{{Value: n(0x800), Mask: n(0xffff), Next: "second"}}, Next: "accept"},
			{Name: "second", Header: "ip", Next: "reject"},
		},
		Actions: []api.Action{
			{Name: "out", Params: []api.Field{{Name: "p", Width: 9}}, Steps: []api.Step{{Kind: api.StepSet, To: ref("meta", "port"), A: api.Operand{Ref: ref("", "p")}}}},
			{Name: "hop", Params: []api.Field{{Name: "d", Width: 48}, {Name: "m", Width: 32}, {Name: "b", Width: 128}}, Steps: []api.Step{{Kind: api.StepSum, To: ref("ip", "check")}}},
			{Name: "none", Steps: []api.Step{{Kind: api.StepDrop}}},
			{Name: "grow", Params: []api.Field{{Name: "x", Width: 1}, {Name: "y", Width: 8}}, Steps: []api.Step{{Kind: api.StepAdd, To: ref("opt", "")}}},
		},
		Tables: []api.Table{
			{Name: "route", Keys: []api.Key{{Ref: ref("ip", "src"), Kind: api.Prefix}, {Ref: ref("ip", "proto"), Kind: api.Exact}}, Actions: []string{"none", "out", "hop"}, Size: 64, Default: call("none")},
			{Name: "acl", Keys: []api.Key{{Ref: ref("meta", "port"), Kind: api.Range}, {Ref: ref("eth", "src"), Kind: api.Ternary}, {Ref: ref("meta", "bit"), Kind: api.Exact}, {Ref: ref("opt", "b"), Kind: api.Range}}, Actions: []string{"grow", "out"}, Size: 4096, Default: call("out", 511), Fixed: true},
			{Name: "mac", Keys: []api.Key{{Ref: ref("eth", "dst"), Kind: api.Exact}, {Ref: ref("opt", "b"), Kind: api.Exact}, {Ref: ref("eth", "dst"), Kind: api.Exact}}, Actions: []string{"hop", "none"}, Size: 1, Default: call("hop", 1<<40, 2, 3)},
			{Name: "long", Keys: []api.Key{{Ref: ref("opt", "b"), Kind: api.Prefix}}, Actions: []string{"none"}, Size: 1, Default: call("none")},
			{Name: "mask", Keys: []api.Key{{Ref: ref("opt", "b"), Kind: api.Ternary}, {Ref: ref("opt", "b"), Kind: api.Ternary}}, Actions: []string{"none", "grow"}, Size: 9, Default: call("none")},
		},
		Control: []api.Stage{{Kind: api.StageApply, Table: "route", Then: []api.Stage{{Kind: api.StageApply, Table: "acl"}}, Else: []api.Stage{{Kind: api.StageExit}}}},
	}
}

// A kindred is a part of a key, by its kind and width.
type kindred struct{ kind, width int }

// keyed is a schema whose one table, t, has these parts; its action is g, of one number of 32 bits.
func keyed(parts ...kindred) api.Schema {
	s := api.Schema{Actions: []api.Action{{Name: "g", Params: []api.Field{{Name: "p", Width: 32}}}}}
	t := api.Table{Name: "t", Actions: []string{"g"}, Size: 1, Default: call("g", 0)}
	for i, p := range parts {
		name := fmt.Sprint("k", i)
		s.Meta = append(s.Meta, api.Field{Name: name, Width: p.width})
		t.Keys = append(t.Keys, api.Key{Ref: ref("meta", name), Kind: p.kind})
	}
	s.Tables = []api.Table{t}
	return s
}

// ranked tells whether a table's entries have priorities.
func ranked(s api.Schema, table string) bool {
	t, _, _ := schema.Table(s, table)
	return schema.Kind(t) == api.Ternary
}

// fresh is a list without entries.
func fresh(t *testing.T, s api.Schema, table string, most int) *tern.List {
	t.Helper()
	l, e := tern.New(s, table, most)
	if l == nil || e != api.OK {
		t.Fatalf("New(.., %s, %d): %v %d", table, most, l, e)
	}
	return l
}

// filled is a list of the small schema's table u with these entries.
func filled(t *testing.T, list ...api.Entry) *tern.List {
	t.Helper()
	l := fresh(t, small(), "u", api.MaxCapacity)
	for _, e := range list {
		checkPut(t, l, e, api.OK)
	}
	return l
}

func checkPut(t *testing.T, l *tern.List, e api.Entry, want api.Errno) {
	t.Helper()
	if code := l.Put(e); code != want {
		t.Errorf("Put(%v) is %d, not %d", e, code, want)
	}
}

func checkSet(t *testing.T, l *tern.List, e api.Entry, want api.Errno) {
	t.Helper()
	if code := l.Set(e); code != want {
		t.Errorf("Set(%v) is %d, not %d", e, code, want)
	}
}

// checkDrop: no entry (nil), if it is not there.
func checkDrop(t *testing.T, l *tern.List, e api.Entry, want ...api.Entry) {
	t.Helper()
	got, there := l.Drop(e)
	checkOne(t, fmt.Sprintf("Drop(%v)", e), got, there, want)
}

func checkGet(t *testing.T, l *tern.List, e api.Entry, want ...api.Entry) {
	t.Helper()
	got, there := l.Get(e)
	checkOne(t, fmt.Sprintf("Get(%v)", e), got, there, want)
}

func checkFind(t *testing.T, l *tern.List, key []api.Bits, want ...api.Entry) {
	t.Helper()
	got, there := l.Find(key)
	checkOne(t, fmt.Sprintf("Find(%v)", key), got, there, want)
}

// checkOne: what is answered is just the wanted one, with its call; zero and false, if there is none.
func checkOne(t *testing.T, what string, got api.Entry, there bool, want []api.Entry) {
	t.Helper()
	if len(want) == 0 {
		if there || !reflect.DeepEqual(got, api.Entry{}) {
			t.Errorf("%s is %v %v, not none", what, got, there)
		}
	} else if !there || !alike(got, want[0]) {
		t.Errorf("%s is %v %v, not %v", what, got, there, want[0])
	}
}

func checkEvery(t *testing.T, l *tern.List, key []api.Bits, want ...api.Entry) {
	t.Helper()
	checkEntries(t, fmt.Sprintf("Every(%v)", key), l.Every(key), want)
}

func checkHidden(t *testing.T, l *tern.List, want ...api.Entry) {
	t.Helper()
	checkEntries(t, "Hidden()", l.Hidden(), want)
}

// checkAll: All and Len.
func checkAll(t *testing.T, l *tern.List, want ...api.Entry) {
	t.Helper()
	checkEntries(t, "All()", collected(t, l.All()), want)
	if l.Len() != len(want) {
		t.Errorf("Len is %d, not %d", l.Len(), len(want))
	}
}

func checkGroups(t *testing.T, l *tern.List, want int) {
	t.Helper()
	if l.Groups() != want {
		t.Errorf("Groups is %d, not %d", l.Groups(), want)
	}
}

func checkEntries(t *testing.T, what string, got, want []api.Entry) {
	t.Helper()
	if !slices.EqualFunc(got, want, alike) {
		t.Errorf("%s is %v, not %v", what, some(got), some(want))
	}
}

// alike: two entries are the same one and have the same call.
func alike(a, b api.Entry) bool {
	return match.Same(a, b) && a.Call.Action == b.Call.Action && slices.Equal(a.Call.Args, b.Call.Args)
}

// collected is what an iterator tells.
func collected(t *testing.T, all iter.Seq[api.Entry]) []api.Entry {
	t.Helper()
	if all == nil {
		t.Fatal("no iterator")
	}
	return slices.Collect(all)
}

// copied is an entry in new memory.
func copied(e api.Entry) api.Entry {
	e.Match, e.Call.Args = slices.Clone(e.Match), slices.Clone(e.Call.Args)
	return e
}

// spoil changes all that an entry's lists have, their spare room too.
func spoil(e api.Entry) {
	m, args := e.Match[:cap(e.Match)], e.Call.Args[:cap(e.Call.Args)]
	for i := range m {
		m[i] = api.Match{Value: n(99), Mask: n(98), Len: 97}
	}
	for i := range args {
		args[i] = n(96)
	}
}

// some is a list that is not too long for a message.
func some[T any](list []T) []T { return list[:min(len(list), 20)] }
