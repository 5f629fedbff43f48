package match_test

import (
	"fmt"
	"math"
	"reflect"
	"testing"

	"turnout/api"
	"turnout/match"
	"turnout/schema"
)

var most = api.Bits{Hi: math.MaxUint64, Lo: math.MaxUint64}

func ref(head, name string) api.Ref { return api.Ref{Head: head, Name: name} }

func n(x uint64) api.Bits { return api.Bits{Lo: x} }

// ns are values of small numbers.
func ns(list ...uint64) []api.Bits {
	var out []api.Bits
	for _, x := range list {
		out = append(out, n(x))
	}
	return out
}

func call(action string, args ...uint64) api.Call {
	return api.Call{Action: action, Args: ns(args...)}
}

// The matches of the four kinds, of small numbers.
func exactly(a uint64) api.Match          { return api.Match{Value: n(a)} }
func begins(a uint64, bits int) api.Match { return api.Match{Value: n(a), Len: bits} }
func masked(a, mask uint64) api.Match     { return api.Match{Value: n(a), Mask: n(mask)} }
func between(a, b uint64) api.Match       { return api.Match{Value: n(a), Mask: n(b)} }

func entry(priority int, c api.Call, matches ...api.Match) api.Entry {
	return api.Entry{Match: matches, Priority: priority, Call: c}
}

// small is the chapter's schema; each call makes a new one.
func small() api.Schema {
	a, b := ref("h", "a"), ref("h", "b")
	return api.Schema{
		Headers: []api.Header{{Name: "h", Fields: []api.Field{{Name: "a", Width: 8}, {Name: "b", Width: 16}}}},
		Actions: []api.Action{{Name: "f", Params: []api.Field{{Name: "p", Width: 9}}}, {Name: "g"}},
		Tables: []api.Table{
			{Name: "t", Keys: []api.Key{{Ref: a, Kind: api.Exact}, {Ref: b, Kind: api.Prefix}}, Actions: []string{"f", "g"}, Size: 2, Default: call("g")},
			{Name: "u", Keys: []api.Key{{Ref: a, Kind: api.Ternary}, {Ref: b, Kind: api.Range}}, Actions: []string{"g"}, Size: 4, Default: call("g"), Fixed: true},
		},
	}
}

// inT and inU are the chapter's first entries of its tables.
func inT() api.Entry { return entry(0, call("f", 0x100), exactly(1), begins(0x1200, 8)) }
func inU() api.Entry { return entry(7, call("g"), masked(2, 3), between(5, 9)) }

// whole is a sound schema with something of everything.
func whole() api.Schema {
	return api.Schema{
		Headers: []api.Header{
			{Name: "eth", Fields: []api.Field{{Name: "dst", Width: 48}, {Name: "src", Width: 48}, {Name: "type", Width: 16}}},
			{Name: "ip", Fields: []api.Field{{Name: "ttl", Width: 8}, {Name: "proto", Width: 8}, {Name: "src", Width: 32}, {Name: "check", Width: 16}}},
			{Name: "opt", Fields: []api.Field{{Name: "a", Width: 3}, {Name: "b", Width: 128}, {Name: "c", Width: 5}}},
		},
		Meta: []api.Field{{Name: "port", Width: 9}, {Name: "mark", Width: 32}, {Name: "bit", Width: 1}},
		States: []api.State{
			{Name: "first", Header: "eth", On: ref("eth", "type"), Cases: []api.Case{{Value: n(0x800), Mask: n(0xffff), Next: "second"}}, Next: "accept"},
			{Name: "second", Header: "ip", Next: "reject"},
		},
		Actions: []api.Action{
			{Name: "out", Params: []api.Field{{Name: "p", Width: 9}}, Steps: []api.Step{{Kind: api.StepSet, To: ref("meta", "port"), A: api.Operand{Ref: ref("", "p")}}}},
			{Name: "hop", Params: []api.Field{{Name: "d", Width: 48}, {Name: "m", Width: 32}, {Name: "b", Width: 128}}, Steps: []api.Step{{Kind: api.StepSum, To: ref("ip", "check")}}},
			{Name: "none", Steps: []api.Step{{Kind: api.StepDrop}}},
			{Name: "grow", Params: []api.Field{{Name: "x", Width: 1}, {Name: "y", Width: 8}}, Steps: []api.Step{{Kind: api.StepAdd, To: ref("opt", "")}}},
		},
		Tables: []api.Table{
			{Name: "route", Keys: []api.Key{{Ref: ref("ip", "src"), Kind: api.Prefix}, {Ref: ref("ip", "proto"), Kind: api.Exact}}, Actions: []string{"none", "out", "hop"}, Size: 64, Default: call("none")},
			{Name: "acl", Keys: []api.Key{{Ref: ref("meta", "port"), Kind: api.Range}, {Ref: ref("eth", "src"), Kind: api.Ternary}, {Ref: ref("meta", "bit"), Kind: api.Exact}, {Ref: ref("opt", "b"), Kind: api.Range}}, Actions: []string{"grow", "out"}, Size: 4096, Default: call("out", 511), Fixed: true},
			{Name: "mac", Keys: []api.Key{{Ref: ref("eth", "dst"), Kind: api.Exact}, {Ref: ref("opt", "b"), Kind: api.Exact}, {Ref: ref("eth", "dst"), Kind: api.Exact}}, Actions: []string{"hop", "none"}, Size: 1, Default: call("hop", 1<<40, 2, 3)},
			{Name: "long", Keys: []api.Key{{Ref: ref("opt", "b"), Kind: api.Prefix}}, Actions: []string{"none"}, Size: 1, Default: call("none")},
		},
		Control: []api.Stage{{Kind: api.StageApply, Table: "route", Then: []api.Stage{{Kind: api.StageApply, Table: "acl"}}, Else: []api.Stage{{Kind: api.StageExit}}}},
	}
}

// A kindred is a part of a key, by its kind and width.
type kindred struct{ kind, width int }

// keyed is a schema whose one table, t, has these parts, and can only have the action g.
func keyed(parts ...kindred) api.Schema {
	s := api.Schema{Actions: []api.Action{{Name: "g"}}}
	t := api.Table{Name: "t", Actions: []string{"g"}, Size: 1, Default: call("g")}
	for i, p := range parts {
		name := fmt.Sprint("k", i)
		s.Meta = append(s.Meta, api.Field{Name: name, Width: p.width})
		t.Keys = append(t.Keys, api.Key{Ref: ref("meta", name), Kind: p.kind})
	}
	s.Tables = []api.Table{t}
	return s
}

// rank is a priority that an entry of a keyed schema may have.
func rank(s api.Schema) int {
	if schema.Kind(s.Tables[0]) == api.Ternary {
		return 1
	}
	return 0
}

// same tells whether two things are the same, nil and empty lists one.
func same[T any](a, b T) bool { return reflect.DeepEqual(plain(a), plain(b)) }

// plain is a copy with nil in the place of every empty list.
func plain[T any](x T) T {
	out := deepCopy(x)
	lists(reflect.ValueOf(&out).Elem(), func(v reflect.Value) {
		if v.Len() == 0 {
			v.SetZero()
		}
	})
	return out
}

// lists hands over all lists of a thing.
func lists(v reflect.Value, f func(reflect.Value)) {
	switch v.Kind() {
	case reflect.Struct:
		for i := range v.NumField() {
			lists(v.Field(i), f)
		}
	case reflect.Slice:
		f(v)
		for i := range v.Len() {
			lists(v.Index(i), f)
		}
	}
}

// deepCopy is a copy in new memory, but for its texts.
func deepCopy[T any](x T) T { return deep(reflect.ValueOf(x)).Interface().(T) }

func deep(v reflect.Value) reflect.Value {
	out := reflect.New(v.Type()).Elem()
	switch v.Kind() {
	case reflect.Struct:
		for i := range v.NumField() {
			out.Field(i).Set(deep(v.Field(i)))
		}
	case reflect.Slice:
		if !v.IsNil() {
			out.Set(reflect.MakeSlice(v.Type(), v.Len(), v.Len()))
		}
		for i := range v.Len() {
			out.Index(i).Set(deep(v.Index(i)))
		}
	default:
		out.Set(v)
	}
	return out
}

// short is a thing's text, cut.
func short(x any) string {
	text := fmt.Sprintf("%+v", x)
	return text[:min(len(text), 2000)]
}

// sound gives up, if a schema that must be sound isn't.
func sound(t *testing.T, what string, s api.Schema) {
	t.Helper()
	if e, thing := schema.Check(s); e != api.OK {
		t.Fatalf("%s: not sound: %d %q", what, e, thing)
	}
}

// withoutCall is who an entry is.
func withoutCall(e api.Entry) api.Entry { return api.Entry{Match: e.Match, Priority: e.Priority} }

// checkRight holds the errors of an entry, of all calls that tell them, against what they must be. who is that of its matches and priority, whole that of it all.
func checkRight(t *testing.T, what string, s api.Schema, table string, e api.Entry, who, whole api.Errno) {
	t.Helper()
	if got := match.Who(s, table, e); got != who {
		t.Errorf("%s: Who: %d; want %d", what, got, who)
	}
	if got := match.Right(s, table, e); got != whole {
		t.Errorf("%s: Right: %d; want %d", what, got, whole)
	}
	told := func(call string, text string, got, want api.Errno) {
		t.Helper()
		if got != want || (text == "") != (want != api.OK) {
			t.Errorf("%s: %s: %q %d; want %d", what, call, text, got, want)
		}
	}
	text, got := match.WhoText(s, table, e)
	told("WhoText", text, got, who)
	text, got = match.PackWho(s, table, e)
	told("PackWho", text, got, who)
	text, got = match.Text(s, table, e)
	told("Text", text, got, whole)
	text, got = match.Pack(s, table, e)
	told("Pack", text, got, whole)
}

// checkTexts holds an entry's texts, and what is read of them, against what they must be.
func checkTexts(t *testing.T, s api.Schema, table string, e api.Entry, who, whole string) {
	t.Helper()
	if text, code := match.Text(s, table, e); text != whole || code != api.OK {
		t.Errorf("Text: %q %d; want %q", text, code, whole)
	}
	if text, code := match.WhoText(s, table, e); text != who || code != api.OK {
		t.Errorf("WhoText: %q %d; want %q", text, code, who)
	}
	if got, code := match.Parse(s, table, whole); !same(got, e) || code != api.OK {
		t.Errorf("Parse of %q: %s %d; want %s", whole, short(got), code, short(e))
	}
	if got, code := match.ParseWho(s, table, who); !same(got, withoutCall(e)) || code != api.OK {
		t.Errorf("ParseWho of %q: %s %d; want %s", who, short(got), code, short(e))
	}
}

// checkBytes holds an entry's bytes, and what is read of them, against what they must be.
func checkBytes(t *testing.T, s api.Schema, table string, e api.Entry, who, whole string) {
	t.Helper()
	if b, code := match.Pack(s, table, e); b != whole || code != api.OK {
		t.Errorf("Pack: %x %d; want %x", b, code, whole)
	}
	if b, code := match.PackWho(s, table, e); b != who || code != api.OK {
		t.Errorf("PackWho: %x %d; want %x", b, code, who)
	}
	if got, code := match.Unpack(s, table, whole); !same(got, e) || code != api.OK {
		t.Errorf("Unpack of %x: %s %d; want %s", whole, short(got), code, short(e))
	}
	if got, code := match.UnpackWho(s, table, who); !same(got, withoutCall(e)) || code != api.OK {
		t.Errorf("UnpackWho of %x: %s %d; want %s", who, short(got), code, short(e))
	}
}

// noText holds what is read of a text that is no entry's, by both calls.
func noText(t *testing.T, s api.Schema, table, text string, want api.Errno) {
	t.Helper()
	if e, code := match.Parse(s, table, text); !same(e, api.Entry{}) || code != want {
		t.Errorf("Parse of %.200q: %s %d; want %d", text, short(e), code, want)
	}
	if e, code := match.ParseWho(s, table, text); !same(e, api.Entry{}) || code != want {
		t.Errorf("ParseWho of %.200q: %s %d; want %d", text, short(e), code, want)
	}
}

// noBytes holds what is read of bytes that are no entry's, by both calls.
func noBytes(t *testing.T, s api.Schema, table, b string, want api.Errno) {
	t.Helper()
	if e, code := match.Unpack(s, table, b); !same(e, api.Entry{}) || code != want {
		t.Errorf("Unpack of %.100x: %s %d; want %d", b, short(e), code, want)
	}
	if e, code := match.UnpackWho(s, table, b); !same(e, api.Entry{}) || code != want {
		t.Errorf("UnpackWho of %.100x: %s %d; want %d", b, short(e), code, want)
	}
}
