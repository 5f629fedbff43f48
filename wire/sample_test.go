package wire_test

import (
	"fmt"
	"math"
	"reflect"
	"testing"

	"turnout/api"
	"turnout/schema"
	"turnout/wire"
)

var most = api.Bits{Hi: math.MaxUint64, Lo: math.MaxUint64}

func ref(head, name string) api.Ref { return api.Ref{Head: head, Name: name} }

func n(x uint64) api.Bits { return api.Bits{Lo: x} }

// ns are values of small numbers.
func ns(list ...uint64) []api.Bits {
	var out []api.Bits
	for _, x := range list {
		out = append(out, n(x))
	}
	return out
}

func filled(name string, values ...uint64) api.Filled {
	return api.Filled{Name: name, Values: ns(values...)}
}

// fields are fields f0, f1 .. of these widths.
func fields(widths ...int) []api.Field {
	var list []api.Field
	for i, width := range widths {
		list = append(list, api.Field{Name: fmt.Sprint("f", i), Width: width})
	}
	return list
}

func header(name string, widths ...int) api.Header {
	return api.Header{Name: name, Fields: fields(widths...)}
}

// state is a state that takes a header and looks at nothing.
func state(name, header, next string) api.State {
	return api.State{Name: name, Header: header, Next: next}
}

// small is the chapter's schema; each call makes a new one.
func small() api.Schema {
	return api.Schema{
		Headers: []api.Header{
			{Name: "eth", Fields: []api.Field{{Name: "dst", Width: 16}, {Name: "type", Width: 8}}},
			{Name: "ip", Fields: []api.Field{{Name: "ttl", Width: 4}, {Name: "tos", Width: 4}, {Name: "check", Width: 16}, {Name: "len", Width: 8}}},
		},
		Meta: []api.Field{{Name: "port", Width: 9}},
		States: []api.State{
			{Name: "first", Header: "eth", On: ref("eth", "type"), Cases: []api.Case{{Value: n(4), Mask: n(0xff), Next: "second"}}, Next: "accept"},
			state("second", "ip", "accept"),
		},
	}
}

// smallBytes is a packet of it, and smallPacket what it is taken apart to, of a port 513.
const smallBytes = "\x01\x02\x04\x5a\x00\x07\x09\x08"

func smallPacket() api.Packet {
	return api.Packet{Heads: []api.Filled{filled("eth", 258, 4), filled("ip", 5, 10, 7, 9)}, Meta: ns(1), Rest: "\x08"}
}

// whole is a sound schema with something of everything, also of what no packet is taken apart by.
func whole() api.Schema {
	s := small()
	s.Headers = append(s.Headers, header("opt", 3, 128, 5), header("bit", 1, 1, 1, 1, 1, 1, 1, 1))
	s.Meta = append(s.Meta, api.Field{Name: "mark", Width: 128})
	s.States[1] = api.State{Name: "second", Header: "ip", On: ref("meta", "port"), Cases: []api.Case{{Value: n(1), Mask: n(511), Next: "third"}, {Value: n(2), Mask: n(3), Next: "reject"}}, Next: "accept"}
	s.States = append(s.States, state("third", "opt", "fourth"), state("fourth", "bit", "accept"))
	s.Actions = []api.Action{
		{Name: "out", Params: []api.Field{{Name: "p", Width: 9}}, Steps: []api.Step{{Kind: api.StepSet, To: ref("meta", "port"), A: api.Operand{Ref: ref("", "p")}}}},
		{Name: "hop", Steps: []api.Step{{Kind: api.StepSet, To: ref("ip", "ttl"), Op: api.OpSub, A: api.Operand{Ref: ref("ip", "ttl")}, B: api.Operand{Const: n(1)}}, {Kind: api.StepSum, To: ref("ip", "check")}}},
		{Name: "none", Steps: []api.Step{{Kind: api.StepDrop}}},
	}
	s.Tables = []api.Table{{Name: "route", Keys: []api.Key{{Ref: ref("eth", "dst"), Kind: api.Prefix}}, Actions: []string{"out", "hop", "none"}, Size: 64, Default: api.Call{Action: "out", Args: ns(511)}}}
	s.Control = []api.Stage{{Kind: api.StageIf, Test: api.Test{Kind: api.TestValid, A: api.Operand{Ref: ref("ip", "")}}, Then: []api.Stage{{Kind: api.StageApply, Table: "route"}}, Else: []api.Stage{{Kind: api.StageExit}}}}
	return s
}

// same tells whether two packets or headers are the same, nil and empty lists one.
func same[T any](a, b T) bool { return reflect.DeepEqual(plain(a), plain(b)) }

// plain is a copy with nil in the place of every empty list.
func plain[T any](x T) T {
	out := deepCopy(x)
	lists(reflect.ValueOf(&out).Elem(), func(v reflect.Value) {
		if v.Len() == 0 {
			v.SetZero()
		}
	})
	return out
}

// lists hands over all lists of a thing.
func lists(v reflect.Value, f func(reflect.Value)) {
	switch v.Kind() {
	case reflect.Struct:
		for i := range v.NumField() {
			lists(v.Field(i), f)
		}
	case reflect.Slice:
		f(v)
		for i := range v.Len() {
			lists(v.Index(i), f)
		}
	}
}

// deepCopy is a copy in new memory, but for its texts.
func deepCopy[T any](x T) T { return deep(reflect.ValueOf(x)).Interface().(T) }

func deep(v reflect.Value) reflect.Value {
	out := reflect.New(v.Type()).Elem()
	switch v.Kind() {
	case reflect.Struct:
		for i := range v.NumField() {
			out.Field(i).Set(deep(v.Field(i)))
		}
	case reflect.Slice:
		if !v.IsNil() {
			out.Set(reflect.MakeSlice(v.Type(), v.Len(), v.Len()))
		}
		for i := range v.Len() {
			out.Index(i).Set(deep(v.Index(i)))
		}
	default:
		out.Set(v)
	}
	return out
}

// short is a thing's text, cut.
func short(x any) string {
	text := fmt.Sprintf("%+v", x)
	return text[:min(len(text), 2000)]
}

// sound gives up, if a schema that must be sound isn't.
func sound(t *testing.T, what string, s api.Schema) {
	t.Helper()
	if e, thing := schema.Check(s); e != api.OK {
		t.Fatalf("%s: not sound: %d %q", what, e, thing)
	}
}

// checkPacket holds a packet against what it must be.
func checkPacket(t *testing.T, what string, p, want api.Packet) {
	t.Helper()
	if !same(p, want) {
		t.Errorf("%s: %s; want %s", what, short(p), short(want))
	}
}

// checkParse holds what a packet is taken apart to against what it must be.
func checkParse(t *testing.T, what string, s api.Schema, in []api.Bits, packet string, want api.Packet, wantE api.Errno) {
	t.Helper()
	if p, e := wire.Parse(s, in, packet); !same(p, want) || e != wantE {
		t.Errorf("%s: %s %d; want %s %d", what, short(p), e, short(want), wantE)
	}
}

// checkBuild holds a packet's bytes against what they must be.
func checkBuild(t *testing.T, what string, s api.Schema, p api.Packet, want string, wantE api.Errno) {
	t.Helper()
	if b, e := wire.Build(s, p); b != want || e != wantE {
		t.Errorf("%s: %.100x %d; want %.100x %d", what, b, e, want, wantE)
	}
}
