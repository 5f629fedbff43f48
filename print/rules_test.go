package print_test

import (
	"fmt"
	"math"
	"math/rand"
	"reflect"
	"slices"
	"strings"
	"sync"
	"testing"
	"unsafe"

	"turnout/api"
	"turnout/print"
)

// R1

// TestGreat: lists, texts and nests far above all limits are answered.
func TestGreat(t *testing.T) {
	const many = 1 << 16
	huge := strings.Repeat("a", 1<<20)
	nest := func(wrap func(api.Stage) api.Stage) []api.Stage {
		stage := exit()
		for range many - 10 {
			stage = wrap(stage)
		}
		return []api.Stage{stage}
	}
	for what, turn := range map[string]func(*api.Schema){
		"headers":        func(s *api.Schema) { s.Headers = make([]api.Header, many) },
		"fields":         func(s *api.Schema) { s.Headers[0].Fields = make([]api.Field, many) },
		"metadata":       func(s *api.Schema) { s.Meta = make([]api.Field, many) },
		"states":         func(s *api.Schema) { s.States = make([]api.State, many) },
		"cases":          func(s *api.Schema) { s.States[0].Cases = make([]api.Case, many) },
		"actions":        func(s *api.Schema) { s.Actions = make([]api.Action, many) },
		"parameters":     func(s *api.Schema) { s.Actions[0].Params = make([]api.Field, many) },
		"steps":          func(s *api.Schema) { s.Actions[0].Steps = make([]api.Step, many) },
		"tables":         func(s *api.Schema) { s.Tables = make([]api.Table, many) },
		"keys":           func(s *api.Schema) { s.Tables[0].Keys = make([]api.Key, many) },
		"arguments":      func(s *api.Schema) { s.Tables[0].Default.Args = make([]api.Bits, many) },
		"stages":         func(s *api.Schema) { s.Control = make([]api.Stage, many) },
		"stages in Then": func(s *api.Schema) { s.Control = nest(func(x api.Stage) api.Stage { return valid("ip", x) }) },
		"stages in Else": func(s *api.Schema) { s.Control = nest(func(x api.Stage) api.Stage { return or(valid("ip"), x) }) },
		"a name":         func(s *api.Schema) { s.Headers[0].Name = huge },
		"a reference":    func(s *api.Schema) { s.States[0].On = ref(huge, huge) },
		"round and round": func(s *api.Schema) {
			s.Control = []api.Stage{valid("ip"), valid("ip")}
			s.Control[0].Then, s.Control[1].Else = s.Control, s.Control
		},
	} {
		s := sample()
		turn(&s)
		if text, e := print.Schema(s); text != "" || e != api.ErrSchema {
			t.Errorf("%s: %d %.100q", what, e, text)
		}
		for _, thing := range []string{"control", "meta", "header eth", huge} {
			if text, e := print.Thing(s, thing); text != "" || e != api.ErrSchema {
				t.Errorf("%s: %d %.100q", what, e, text)
			}
		}
	}
}

// TestNoKind: kinds, operations, tests, sizes and widths that there are not are refused, wherever they stand.
func TestNoKind(t *testing.T) {
	for _, kind := range []int{math.MinInt, -1, 0, 7, 8, 100, math.MaxInt} {
		for what, turn := range map[string]func(*api.Schema){
			"step":  func(s *api.Schema) { s.Actions[0].Steps[0].Kind = kind },
			"key":   func(s *api.Schema) { s.Tables[0].Keys[0].Kind = kind },
			"stage": func(s *api.Schema) { s.Control[2].Kind = kind },
			"test":  func(s *api.Schema) { s.Control[0].Test.Kind = kind },
			// The step has a B, which OpCopy, 0, does not name.
			"operation": func(s *api.Schema) { s.Actions[1].Steps[0].Op = kind },
		} {
			s := sample()
			turn(&s)
			refused(t, fmt.Sprint(what, " ", kind), s, "control", api.ErrSchema, api.ErrSchema)
		}
	}
	for _, number := range []int{math.MinInt, -1, 0, 4097, math.MaxInt} {
		s := sample()
		s.Tables[0].Size = number
		refused(t, "size", s, "control", api.ErrSchema, api.ErrSchema)
		s = sample()
		s.Headers[1].Fields[2].Width = number
		refused(t, "width", s, "control", api.ErrSchema, api.ErrSchema)
	}
}

// TestNotSaid: schemas are refused that would make a text, but say what no text says.
func TestNotSaid(t *testing.T) {
	for what, turn := range map[string]func(*api.Schema){
		"B with OpCopy":             func(s *api.Schema) { s.Actions[0].Steps[0].B = num(1) },
		"a constant and a field":    func(s *api.Schema) { s.Actions[1].Steps[0].A.Const = n(1) },
		"drop with a field":         func(s *api.Schema) { s.Actions[2].Steps[0].To = ref("ip", "ttl") },
		"add with a field":          func(s *api.Schema) { s.Actions[3].Steps[0].To.Name = "a" },
		"exit with stages":          func(s *api.Schema) { s.Control[2].Then = []api.Stage{exit()} },
		"a test of a table":         func(s *api.Schema) { s.Control[0].Table = "route" },
		"a table with a test":       func(s *api.Schema) { s.Control[1].Then[0].Test.Kind = api.TestEq },
		"valid with a field":        func(s *api.Schema) { s.Control[0].Test.A.Ref.Name = "ttl" },
		"a value outside of a mask": func(s *api.Schema) { s.States[0].Cases[1].Value = n(0x11) },
		"a mask beyond the width":   func(s *api.Schema) { s.States[0].Cases[0].Mask = n(0x1ffff) },
		"cases without On":          func(s *api.Schema) { s.States[0].On = api.Ref{} },
	} {
		s := sample()
		turn(&s)
		refused(t, what, s, "meta", api.ErrSchema, api.ErrSchema)
	}
}

// R3

// parts hands over each list of a schema, its spare room included.
func parts(v reflect.Value, f func(reflect.Value)) {
	switch v.Kind() {
	case reflect.Struct:
		for i := range v.NumField() {
			parts(v.Field(i), f)
		}
	case reflect.Slice:
		f(v)
		for i := range v.Len() {
			parts(v.Index(i), f)
		}
	}
}

// roomy is a copy of a schema whose lists all have spare room, with something in it.
func roomy(s api.Schema) api.Schema {
	out := deepCopy(s)
	var give func(reflect.Value)
	give = func(v reflect.Value) {
		switch v.Kind() {
		case reflect.Struct:
			for i := range v.NumField() {
				give(v.Field(i))
			}
		case reflect.Slice:
			for i := range v.Len() {
				give(v.Index(i))
			}
			wide := reflect.MakeSlice(v.Type(), v.Len()+3, v.Len()+3)
			reflect.Copy(wide, v)
			for i := v.Len(); i < wide.Len(); i++ {
				mark(wide.Index(i))
			}
			v.Set(wide.Slice(0, v.Len()))
		}
	}
	give(reflect.ValueOf(&out).Elem())
	return out
}

// mark makes a thing of spare room one that would be seen.
func mark(v reflect.Value) {
	switch v.Kind() {
	case reflect.Struct:
		for i := range v.NumField() {
			mark(v.Field(i))
		}
	case reflect.String:
		v.SetString("spare")
	case reflect.Int:
		v.SetInt(1)
	}
}

// seen is a schema with the spare room of its lists, as a text.
func seen(s api.Schema) string {
	var b strings.Builder
	parts(reflect.ValueOf(s), func(v reflect.Value) {
		fmt.Fprintf(&b, "%d %d %+v\n", v.Len(), v.Cap(), v.Slice(0, v.Cap()))
	})
	return b.String()
}

// TestHandedInStays: what is handed in is neither changed nor does its spare room count.
func TestHandedInStays(t *testing.T) {
	r := rand.New(rand.NewSource(7))
	list := []api.Schema{sample(), greatest()}
	for range 100 {
		list = append(list, drawSound(r))
	}
	for _, x := range list {
		s := roomy(x)
		before := seen(s)
		want, e := print.Schema(x)
		if text, e2 := print.Schema(s); text != want || e2 != e {
			t.Errorf("%d with spare room; want %d\n%s\nwant\n%s", e2, e, text, want)
		}
		for _, thing := range modelThings(x, nil) {
			print.Thing(s, thing.name)
		}
		print.Thing(s, "nothing")
		if seen(s) != before {
			t.Fatalf("it was changed: %s", short(s))
		}
	}
	args := []api.Bits{n(1), n(2), n(3), n(4)}
	if text, _ := print.Call(api.Call{Action: "f", Args: args[:2]}); text != "f(1, 2)" || !slices.Equal(args, []api.Bits{n(1), n(2), n(3), n(4)}) {
		t.Errorf("%q, %v", text, args)
	}
}

// TestNilAndEmpty: nil and empty lists are one.
func TestNilAndEmpty(t *testing.T) {
	r := rand.New(rand.NewSource(8))
	for range 300 {
		s := drawSound(r)
		want, _ := print.Schema(s)
		empty := deepCopy(s)
		var fill func(reflect.Value)
		fill = func(v reflect.Value) {
			switch v.Kind() {
			case reflect.Struct:
				for i := range v.NumField() {
					fill(v.Field(i))
				}
			case reflect.Slice:
				if v.IsNil() {
					v.Set(reflect.MakeSlice(v.Type(), 0, 0))
				}
				for i := range v.Len() {
					fill(v.Index(i))
				}
			}
		}
		fill(reflect.ValueOf(&empty).Elem())
		checkSchema(t, "empty lists", empty, want)
	}
}

// mutable is a text over bytes that can be changed behind its back.
func mutable(s string) (string, []byte) {
	b := []byte(s)
	return unsafe.String(&b[0], len(b)), b
}

// TestAnswersAreNewMemory: an answer is none of the texts that were handed in, not even if it has little besides.
func TestAnswersAreNewMemory(t *testing.T) {
	name, under := mutable("fffff")
	s := api.Schema{Actions: []api.Action{{Name: name}}, Control: []api.Stage{exit()}}
	asked, underAsked := mutable("action fffff")
	call, _ := print.Call(api.Call{Action: name})
	one, _ := print.Schema(s)
	other, _ := print.Schema(s)
	thing, _ := print.Thing(s, asked)
	copy(under, "ggggg")
	copy(underAsked, "gggggg")
	want := "action fffff() {\n}\n"
	if call != "fffff()" || one != want+"control {\n  exit;\n}\n" || other != one || thing != want {
		t.Errorf("%q, %q, %q, %q", call, one, other, thing)
	}
	if unsafe.StringData(one) == unsafe.StringData(other) {
		t.Error("two answers share memory")
	}
}

// R4

// TestOnNothingElse: the same is answered again and again, and side by side.
func TestOnNothingElse(t *testing.T) {
	r := rand.New(rand.NewSource(9))
	list := []api.Schema{sample(), greatest(), {Meta: []api.Field{{Name: "Bad", Width: 1}}}}
	for range 20 {
		list = append(list, drawSound(r))
	}
	for _, s := range list {
		want, e := print.Schema(s)
		one, e1 := print.Thing(s, "meta")
		var all sync.WaitGroup
		for range 4 {
			all.Go(func() {
				for range 5 {
					text, e2 := print.Schema(s)
					thing, e3 := print.Thing(s, "meta")
					if text != want || e2 != e || thing != one || e3 != e1 {
						t.Errorf("it is answered otherwise: %s", short(s))
					}
				}
			})
		}
		all.Wait()
	}
}
