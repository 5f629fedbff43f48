package schema_test

import (
	"fmt"
	"reflect"
	"runtime"
	"slices"
	"strings"
	"sync"
	"testing"

	"turnout/api"
	"turnout/schema"
)

// answers are what all calls tell of a schema.
func answers(s api.Schema) []any {
	e, thing := schema.Check(s)
	list := []any{e, thing, schema.Applied(s), schema.Meets(s), schema.Copy(s), schema.Same(s, s), schema.Same(s, sample())}
	for _, name := range []string{"", "meta", "ip", "out", "route", "acl", "x"} {
		h, isHeader := schema.Header(s, name)
		a, isAction := schema.Action(s, name)
		x, at, isTable := schema.Table(s, name)
		widths, e := schema.Widths(s, name)
		list = append(list, h, isHeader, a, isAction, x, at, isTable, schema.Kind(x), widths, e)
		list = append(list, schema.Width(s, ref(name, "src")), schema.Width(s, ref("meta", name)), schema.Call(s, name, api.Call{Action: "out", Args: []api.Bits{n(1)}}))
	}
	return list
}

// text is what some answers say; nil and empty lists are one.
func text(list []any) string {
	var b strings.Builder
	for _, x := range list {
		fmt.Fprintf(&b, "%+v\n", deepNil(reflect.ValueOf(x)))
	}
	return b.String()
}

// R1

// TestGreat: lists, texts and nests far above all limits are answered.
func TestGreat(t *testing.T) {
	const many = 1 << 16
	huge := strings.Repeat("a", 1<<20)
	for _, x := range []turned{
		{"headers", func(s *api.Schema) { s.Headers = append(s.Headers, make([]api.Header, many)...) }, api.ErrMany, "header"},
		{"fields", func(s *api.Schema) { s.Headers[2].Fields = fields(many, 1) }, api.ErrMany, "header opt"},
		{"metadata", func(s *api.Schema) { s.Meta = make([]api.Field, many) }, api.ErrMany, "meta"},
		{"states", func(s *api.Schema) { s.States = make([]api.State, many) }, api.ErrMany, "state"},
		{"cases", func(s *api.Schema) { s.States[0].Cases = make([]api.Case, many) }, api.ErrMany, "state first"},
		{"actions", func(s *api.Schema) { s.Actions = make([]api.Action, many) }, api.ErrMany, "action"},
		{"parameters", func(s *api.Schema) { s.Actions[0].Params = make([]api.Field, many) }, api.ErrMany, "action out"},
		{"steps", func(s *api.Schema) { s.Actions[0].Steps = make([]api.Step, many) }, api.ErrMany, "action out"},
		{"tables", func(s *api.Schema) { s.Tables = append(s.Tables, make([]api.Table, many)...) }, api.ErrMany, "table"},
		{"keys", func(s *api.Schema) { s.Tables[0].Keys = make([]api.Key, many) }, api.ErrMany, "table route"},
		{"a table's actions", func(s *api.Schema) { s.Tables[0].Actions = make([]string, many) }, api.ErrMany, "table route"},
		{"arguments", func(s *api.Schema) { s.Tables[0].Default.Args = make([]api.Bits, many) }, api.ErrArgs, "table route"},
		{"stages", func(s *api.Schema) { s.Control = make([]api.Stage, many) }, api.ErrMany, "control"},
		{"stages in Then", func(s *api.Schema) { s.Control = []api.Stage{nested(many, exit(), inThen)} }, api.ErrMany, "control"},
		{"stages in Else", func(s *api.Schema) { s.Control = []api.Stage{nested(many, exit(), inElse)} }, api.ErrMany, "control"},
		{"a header's name", func(s *api.Schema) { s.Headers[0].Name = huge }, api.ErrName, "header " + huge},
		{"a reference", func(s *api.Schema) { s.States[0].On = ref(huge, huge) }, api.ErrUnknown, "state first"},
		{"a stage's table", func(s *api.Schema) { s.Control[0].Table = huge }, api.ErrKind, "control"},
	} {
		s := sample()
		x.turn(&s)
		check(t, x.what, s, x.code, x.thing)
		schema.Applied(s)
		schema.Meets(s)
		if c := schema.Copy(s); !schema.Same(c, s) || schema.Same(c, sample()) {
			t.Errorf("%s: Copy", x.what)
		}
		checkFound(t, s, "ip")
		checkFound(t, s, "out")
		if x.what != "keys" {
			checkFound(t, s, "route")
		}
	}
}

// TestManyKeys: many references to many fields are looked up in one go.
func TestManyKeys(t *testing.T) {
	const many = 1 << 16
	s := api.Schema{Tables: make([]api.Table, many)}
	last := &s.Tables[many-1]
	last.Name = "t"
	for i, name := range names("h", many) {
		s.Headers = append(s.Headers, api.Header{Name: name, Fields: []api.Field{{Name: "f", Width: i % 130}}})
		last.Keys = append(last.Keys, api.Key{Ref: ref(name, "f")})
	}
	widths, e := schema.Widths(s, "t")
	if e != api.OK || len(widths) != many {
		t.Fatalf("%d, %d widths", e, len(widths))
	}
	for i, width := range widths {
		if want := i % 130 % 129; width != want {
			t.Fatalf("the key %d: %d; want %d", i, width, want)
		}
	}
}

// TestRoundAndRound: a control that stands within itself has too many stages.
func TestRoundAndRound(t *testing.T) {
	list := []api.Stage{apply("mac"), valid("ip")}
	list[1].Then, list[1].Else = list, list
	s := sample()
	s.Control = list
	check(t, "round and round", s, api.ErrMany, "control")
	if got := schema.Applied(s); len(got) > 0 || schema.Meets(s) != 0 {
		t.Errorf("%q, %d", got, schema.Meets(s))
	}
}

// R3

// all is a list with its spare room, as a text.
func all(s api.Schema) string {
	var b strings.Builder
	parts(reflect.ValueOf(s), func(v reflect.Value) {
		if v.Kind() == reflect.Slice {
			v = v.Slice(0, v.Cap())
		}
		fmt.Fprintf(&b, "%+v\n", v)
	})
	return b.String()
}

func TestHandedInIsNotChanged(t *testing.T) {
	for _, s := range []api.Schema{sample(), double(), full(), {}} {
		s = withRoom(s)
		was := all(s)
		answers(s)
		if all(s) != was {
			t.Errorf("it was changed: %s", short(s))
		}
	}
}

// TestAnswersAreNewMemory: an answer shares no memory with what was handed in, nor with itself, nor with another.
func TestAnswersAreNewMemory(t *testing.T) {
	for _, s := range []api.Schema{withRoom(sample()), withRoom(double()), withEmpty(sample())} {
		handed := memory(reflect.ValueOf(s))
		for name, ask := range map[string]func() any{
			"Copy":    func() any { return schema.Copy(s) },
			"Header":  func() any { x, _ := schema.Header(s, s.Headers[0].Name); return x },
			"Action":  func() any { x, _ := schema.Action(s, s.Actions[0].Name); return x },
			"Table":   func() any { x, _, _ := schema.Table(s, s.Tables[0].Name); return x },
			"Widths":  func() any { x, _ := schema.Widths(s, s.Tables[0].Name); return x },
			"Applied": func() any { return schema.Applied(s) },
		} {
			one, other := ask(), ask()
			a, b := memory(reflect.ValueOf(one)), memory(reflect.ValueOf(other))
			if len(a) == 0 && name != "Applied" {
				t.Errorf("%s tells nothing", name)
			}
			if !apart(slices.Concat(a, b)) {
				t.Errorf("%s shares memory with itself", name)
			}
			if shared(a, handed) {
				t.Errorf("%s shares memory with what was handed in", name)
			}
			// Memory that nobody holds any more might be given out again.
			runtime.KeepAlive(one)
			runtime.KeepAlive(other)
		}
	}
}

// shared tells whether a stretch of the one and one of the other have a byte in common.
func shared(one, other []stretch) bool {
	for _, a := range one {
		for _, b := range other {
			if a.at < b.at+b.size && b.at < a.at+a.size {
				return true
			}
		}
	}
	return false
}

// TestNilAndEmpty: whether a list is nil or empty changes no answer.
func TestNilAndEmpty(t *testing.T) {
	for _, s := range []api.Schema{sample(), double(), full(), {}} {
		if got, want := text(answers(withEmpty(s))), text(answers(s)); got != want {
			t.Errorf("%.2000s; want %.2000s", got, want)
		}
	}
	drawnSchemas(12, 1000, func(s api.Schema) {
		if got, want := text(answers(withEmpty(s))), text(answers(s)); got != want {
			t.Fatalf("%.2000s; want %.2000s", got, want)
		}
	})
}

// R2

// TestNothingBesideAnError: what is not found, and a list beside an error, is zero.
func TestNothingBesideAnError(t *testing.T) {
	s := sample()
	if h, ok := schema.Header(s, "x"); ok || !reflect.ValueOf(h).IsZero() {
		t.Errorf("Header: %v", h)
	}
	if a, ok := schema.Action(s, "x"); ok || !reflect.ValueOf(a).IsZero() {
		t.Errorf("Action: %v", a)
	}
	if x, at, ok := schema.Table(s, "x"); ok || at != 0 || !reflect.ValueOf(x).IsZero() {
		t.Errorf("Table: %v, %d", x, at)
	}
	if l, e := schema.Widths(s, "x"); e != api.ErrTable || len(l) > 0 {
		t.Errorf("Widths: %v, %d", l, e)
	}
	if e, thing := schema.Check(s); e != api.OK || thing != "" {
		t.Errorf("Check: %d, %q", e, thing)
	}
}

// R4

// TestOnNothingElse: the same is answered with other memory, with spare room, again and again, and side by side.
func TestOnNothingElse(t *testing.T) {
	for _, s := range []api.Schema{sample(), double(), full()} {
		want := text(answers(s))
		for range 20 {
			if text(answers(s)) != want || text(answers(withRoom(s))) != want || text(answers(deepCopy(s))) != want {
				t.Fatalf("it answers otherwise: %s", short(s))
			}
		}
		var run sync.WaitGroup
		for range 8 {
			run.Go(func() {
				for range 20 {
					if text(answers(s)) != want {
						t.Error("it answers otherwise side by side")
					}
				}
			})
		}
		run.Wait()
	}
}
