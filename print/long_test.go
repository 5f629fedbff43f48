package print_test

import (
	"strings"
	"testing"

	"turnout/api"
	"turnout/print"
	"turnout/schema"
)

// sized is a sound schema whose text has so many bytes: actions of steps that add up to it.
func sized(t *testing.T, size int) api.Schema {
	t.Helper()
	f := ref("h", "f")
	s := api.Schema{Headers: []api.Header{{Name: "h", Fields: []api.Field{{Name: "f", Width: 128}}}}}
	left := size - len("header h {\n  f: 128;\n}\n")
	step := set(f, api.OpCopy, api.Operand{Const: most}, api.Operand{})
	const bytes = len("  h.f = 0xffffffffffffffffffffffffffffffff;\n")
	for _, name := range names("a", 32, api.MaxActions) {
		frame := len("action () {\n}\n") + len(name)
		if left < frame+64 {
			break
		}
		a := api.Action{Name: name}
		left -= frame
		for len(a.Steps) < api.MaxSteps && left >= bytes+20 {
			a.Steps = append(a.Steps, step)
			left -= bytes
		}
		s.Actions = append(s.Actions, a)
	}
	// What is left goes into fields of the metadata, of names that are as long as it takes.
	left -= len("meta {\n}\n")
	for i := 0; left > 0; i++ {
		now := left
		if left > 20 {
			now = 10
		}
		name := strings.Repeat(string(rune('a'+i)), now-len("  : 1;\n"))
		s.Meta = append(s.Meta, api.Field{Name: name, Width: 1})
		left -= now
	}
	sound(t, "sized", s)
	if text := modelSchema(s); len(text) != size {
		t.Fatalf("%d bytes; want %d", len(text), size)
	}
	return s
}

// P9.3: at the limit all is well, one byte past it is refused.
func TestLong(t *testing.T) {
	for _, size := range []int{5000, api.MaxText - 1, api.MaxText} {
		s := sized(t, size)
		text, e := print.Schema(s)
		if e != api.OK || len(text) != size || text != modelSchema(s) {
			t.Errorf("%d bytes: %d, %d bytes", size, e, len(text))
		}
		if again := read(t, text); !schema.Same(again, s) {
			t.Errorf("%d bytes are read otherwise", size)
		}
	}
	for _, size := range []int{api.MaxText + 1, api.MaxText + 2, api.MaxText + 1000, api.MaxText + 20000} {
		s := sized(t, size)
		refused(t, "too long", s, "nothing", api.ErrLong, api.ErrUnknown)
		together := 0
		for _, x := range modelThings(s, nil) {
			text, e := print.Thing(s, x.name)
			if text != laid(x.words) || e != api.OK {
				t.Errorf("%d bytes: %q: %d, %d bytes", size, x.name, e, len(text))
			}
			together += len(text)
		}
		if together != size {
			t.Errorf("%d bytes together; want %d", together, size)
		}
	}
}

// TestUnsoundAndLong: a schema that isn't sound is refused for that, however long its text would be.
func TestUnsoundAndLong(t *testing.T) {
	s := sized(t, api.MaxText+1000)
	s.Actions[len(s.Actions)-1].Name = "drop"
	refused(t, "not sound and too long", s, "nothing", api.ErrSchema, api.ErrSchema)
	s = sized(t, api.MaxText+1000)
	s.Control = []api.Stage{apply("t")}
	refused(t, "not sound and too long", s, "meta", api.ErrSchema, api.ErrSchema)
}

// greatest is a sound schema with as much of everything as may be.
func greatest() api.Schema {
	var s api.Schema
	fields := func(count int) []api.Field {
		var list []api.Field
		for _, name := range names("f", 32, count) {
			list = append(list, api.Field{Name: name, Width: 128})
		}
		return list
	}
	for _, name := range names("h", 32, api.MaxHeaders) {
		s.Headers = append(s.Headers, api.Header{Name: name, Fields: fields(api.MaxFields)})
	}
	s.Meta = fields(api.MaxFields)
	f := ref(s.Headers[31].Name, s.Meta[31].Name)
	for _, name := range names("s", 32, api.MaxStates) {
		x := api.State{Name: name, Header: f.Head, On: f, Next: "reject"}
		for i := range uint64(api.MaxCases) {
			x.Cases = append(x.Cases, api.Case{Value: api.Bits{Hi: 1 << 63, Lo: i}, Mask: api.Bits{Hi: 1 << 63, Lo: 31}, Next: "accept"})
		}
		s.States = append(s.States, x)
	}
	for _, name := range names("a", 32, api.MaxActions) {
		x := api.Action{Name: name, Params: fields(api.MaxParams)}
		for range api.MaxSteps {
			x.Steps = append(x.Steps, set(f, api.OpXor, api.Operand{Ref: f}, api.Operand{Ref: f}))
		}
		s.Actions = append(s.Actions, x)
	}
	for _, name := range names("t", 32, api.MaxTables) {
		x := api.Table{Name: name, Size: api.MaxCapacity, Default: api.Call{Action: s.Actions[0].Name}, Fixed: true}
		for range api.MaxKeys {
			x.Keys = append(x.Keys, api.Key{Ref: f, Kind: api.Ternary})
			x.Default.Args = append(x.Default.Args, most)
		}
		for _, a := range s.Actions {
			x.Actions = append(x.Actions, a.Name)
		}
		s.Tables = append(s.Tables, x)
	}
	// Sixteen times eight stages within one another.
	for range api.MaxStages / api.MaxDeep {
		stage := when(api.TestLe, api.Operand{Ref: f}, api.Operand{Ref: f})
		for range api.MaxDeep - 1 {
			stage = or(when(api.TestLe, api.Operand{Ref: f}, api.Operand{Ref: f}), stage)
		}
		s.Control = append(s.Control, stage)
	}
	return s
}

// TestGreatest: a thing's text is told, of however many bytes it is.
func TestGreatest(t *testing.T) {
	s := greatest()
	sound(t, "the greatest", s)
	refused(t, "the greatest", s, "nothing", api.ErrLong, api.ErrUnknown)
	for _, x := range modelThings(s, nil) {
		checkThing(t, s, x.name, laid(x.words))
		if again := read(t, laid(x.words)); len(again.Control) != len(s.Control) && x.name == "control" {
			t.Errorf("%q is read otherwise", x.name)
		}
	}
}
