package match_test

import (
	"fmt"
	"math"
	"math/rand"
	"reflect"
	"strings"
	"sync"
	"testing"
	"unsafe"

	"turnout/api"
	"turnout/match"
	"turnout/schema"
)

// calls are all calls of the package with these arguments; what each answers.
func calls(s api.Schema, table string, a, b api.Entry, key []api.Bits, text, bytes string) []any {
	list := []any{
		match.Who(s, table, a), match.Right(s, table, a), match.Same(a, b), match.Order(a, b),
		match.Hits(s, table, a, key), match.Best(s, table, []api.Entry{a, b}, key), match.Covers(s, table, a, b), match.Meet(s, table, a, b),
		match.Size(s, table), match.WhoSize(s, table),
	}
	for _, f := range []func(api.Schema, string, api.Entry) (string, api.Errno){match.Text, match.WhoText, match.Pack, match.PackWho} {
		text, code := f(s, table, a)
		list = append(list, text, code)
	}
	for _, x := range []struct {
		f    func(api.Schema, string, string) (api.Entry, api.Errno)
		from string
	}{{match.Parse, text}, {match.ParseWho, text}, {match.Unpack, bytes}, {match.UnpackWho, bytes}} {
		e, code := x.f(s, table, x.from)
		list = append(list, e, code)
	}
	return list
}

// A drawing is what calls are handed.
type drawing struct {
	s           api.Schema
	table       string
	a, b        api.Entry
	key         []api.Bits
	text, bytes string
}

// draw draws one: its text and bytes are those of the whole entry, or of who it is.
func draw(r *rand.Rand) drawing {
	s := drawSound(r)
	table := s.Tables[r.Intn(len(s.Tables))].Name
	x := drawing{s: s, table: table, a: drawEntry(r, s, table), b: drawEntry(r, s, table)}
	x.key = drawKey(r, s, table, []api.Entry{x.a})
	x.text, x.bytes = modelText(s, table, x.a), modelPack(s, table, x.a)
	if r.Intn(2) == 0 {
		x.text, x.bytes = modelWhoText(s, table, x.a), modelPackWho(s, table, x.a)
	}
	return x
}

func (x drawing) calls() []any { return calls(x.s, x.table, x.a, x.b, x.key, x.text, x.bytes) }

// R1

// TestGreat: lists, texts and numbers far above all limits are answered.
func TestGreat(t *testing.T) {
	const many = 1 << 16
	huge := strings.Repeat("a", 1<<20)
	for what, change := range map[string]func(s *api.Schema){
		"headers":      func(s *api.Schema) { s.Headers = make([]api.Header, many) },
		"fields":       func(s *api.Schema) { s.Headers[0].Fields = make([]api.Field, many) },
		"metadata":     func(s *api.Schema) { s.Meta = make([]api.Field, many) },
		"actions":      func(s *api.Schema) { s.Actions = make([]api.Action, many) },
		"parameters":   func(s *api.Schema) { s.Actions[0].Params = make([]api.Field, many) },
		"tables":       func(s *api.Schema) { s.Tables = make([]api.Table, many) },
		"keys":         func(s *api.Schema) { s.Tables[0].Keys = make([]api.Key, many) },
		"can":          func(s *api.Schema) { s.Tables[0].Actions = make([]string, many) },
		"no key":       func(s *api.Schema) { s.Tables[0].Keys = nil },
		"nine keys":    func(s *api.Schema) { s.Tables[1].Keys = append(make([]api.Key, 0), manyOf(s.Tables[1].Keys[0], 9)...) },
		"a kind":       func(s *api.Schema) { s.Tables[0].Keys[0].Kind = 5 },
		"kind 0":       func(s *api.Schema) { s.Tables[0].Keys[0].Kind = 0 },
		"a kind of -1": func(s *api.Schema) { s.Tables[0].Keys[0].Kind = -1 },
		"a great kind": func(s *api.Schema) { s.Tables[0].Keys[0].Kind = math.MaxInt },
		"no field":     func(s *api.Schema) { s.Tables[0].Keys[0].Ref = ref("x", "x") },
		"a width":      func(s *api.Schema) { s.Headers[1].Fields[2].Width = math.MaxInt },
		"a width of 0": func(s *api.Schema) { s.Headers[1].Fields[2].Width = 0 },
		"a name":       func(s *api.Schema) { s.Tables[0].Name = huge },
		"no action":    func(s *api.Schema) { s.Tables[0].Actions[1] = "x" },
		"no default":   func(s *api.Schema) { s.Tables[0].Default = api.Call{} },
		"two tables":   func(s *api.Schema) { s.Tables[1].Name = s.Tables[0].Name },
		"stages":       func(s *api.Schema) { s.Control = make([]api.Stage, many) },
	} {
		s := whole()
		change(&s)
		if code, _ := schema.Check(s); code == api.OK {
			t.Fatalf("%s: it is sound", what)
		}
		e := entry(0, call("none"), begins(0x0a000000, 8), exactly(6))
		for _, table := range []string{"route", "acl", "x", ""} {
			checkRefused(t, s, table, e, "0xa000000/8, 0x6 -> none()", "\x0a\x00\x00\x00\x08\x06\x00", ns(1, 2), api.ErrSchema)
		}
	}
	s := small()
	for what, e := range map[string]api.Entry{
		"matches":   {Match: make([]api.Match, many)},
		"alike":     {Match: manyOf(exactly(1), many), Priority: 1},
		"a name":    entry(0, api.Call{Action: huge}, inT().Match...),
		"arguments": entry(0, api.Call{Action: "g", Args: make([]api.Bits, many)}, inT().Match...),
		"numbers":   {Match: []api.Match{{Value: most, Mask: most, Len: math.MinInt}, {Value: most, Mask: most, Len: math.MaxInt}}, Priority: math.MinInt},
	} {
		for _, table := range []string{"t", "u", huge} {
			if code := match.Right(s, table, e); code == api.OK {
				t.Errorf("%s: it is right in %.10s", what, table)
			}
			calls(s, table, e, inT(), make([]api.Bits, many), huge, huge)
			calls(s, table, inU(), e, []api.Bits{most, most}, huge[:api.MaxText], huge)
		}
	}
	list := manyOf(inU(), many)
	list[many-1].Priority = 8
	if got := match.Best(s, "u", list, ns(2, 5)); got != many-1 {
		t.Errorf("Best of many: %d", got)
	}
}

func manyOf[T any](x T, many int) []T {
	list := make([]T, many)
	for i := range list {
		list[i] = x
	}
	return list
}

// R3

// roomy is a copy whose lists all have spare room, with something in it.
func roomy[T any](x T) T {
	out := deepCopy(x)
	var give func(reflect.Value)
	give = func(v reflect.Value) {
		switch v.Kind() {
		case reflect.Struct:
			for i := range v.NumField() {
				give(v.Field(i))
			}
		case reflect.Slice:
			for i := range v.Len() {
				give(v.Index(i))
			}
			wide := reflect.MakeSlice(v.Type(), v.Len()+3, v.Len()+3)
			reflect.Copy(wide, v)
			for i := v.Len(); i < wide.Len(); i++ {
				mark(wide.Index(i))
			}
			v.Set(wide.Slice(0, v.Len()))
		}
	}
	give(reflect.ValueOf(&out).Elem())
	return out
}

// mark makes a thing of spare room one that would be seen.
func mark(v reflect.Value) {
	switch v.Kind() {
	case reflect.Struct:
		for i := range v.NumField() {
			mark(v.Field(i))
		}
	case reflect.String:
		v.SetString("spare")
	case reflect.Int:
		v.SetInt(1)
	case reflect.Uint64:
		v.SetUint(1)
	}
}

// seen is a thing with the spare room of its lists, as a text.
func seen(list ...any) string {
	var b strings.Builder
	for _, x := range list {
		lists(reflect.ValueOf(x), func(v reflect.Value) {
			fmt.Fprintf(&b, "%d %d %+v\n", v.Len(), v.Cap(), v.Slice(0, v.Cap()))
		})
	}
	return b.String()
}

// TestHandedInStays: what is handed in is not changed, and its spare room neither counts nor is it changed.
func TestHandedInStays(t *testing.T) {
	r := rand.New(rand.NewSource(11))
	for range 300 {
		x := draw(r)
		want := x.calls()
		x.s, x.a, x.b, x.key = roomy(x.s), roomy(x.a), roomy(x.b), roomy(x.key)
		before := seen(x.s, x.a, x.b, x.key)
		got := x.calls()
		if !reflect.DeepEqual(got, want) {
			t.Fatalf("with spare room %s; want %s", short(got), short(want))
		}
		list := roomy([]api.Entry{x.a, x.b, x.a})
		all := seen(list)
		match.Best(x.s, x.table, list, x.key)
		if seen(x.s, x.a, x.b, x.key) != before || seen(list) != all {
			t.Fatalf("it was changed: %s, %s", short(x.a), short(x.s))
		}
	}
}

// TestNilAndEmpty: nil and empty lists are one, in a schema, in an entry, and as a key.
func TestNilAndEmpty(t *testing.T) {
	r := rand.New(rand.NewSource(12))
	empty := func(v reflect.Value) {
		lists(v, func(v reflect.Value) {
			if v.IsNil() {
				v.Set(reflect.MakeSlice(v.Type(), 0, 2))
			}
		})
	}
	for range 300 {
		x := draw(r)
		if r.Intn(3) == 0 {
			x.a.Match, x.key = nil, nil
		}
		want := x.calls()
		x.s, x.a, x.b, x.key = plain(x.s), plain(x.a), plain(x.b), plain(x.key)
		empty(reflect.ValueOf(&x.s).Elem())
		empty(reflect.ValueOf(&x.a).Elem())
		empty(reflect.ValueOf(&x.b).Elem())
		empty(reflect.ValueOf(&x.key).Elem())
		if got := x.calls(); !reflect.DeepEqual(got, want) {
			t.Fatalf("empty lists: %s; want %s", short(got), short(want))
		}
		if got := match.Best(x.s, x.table, []api.Entry{}, x.key); got != -1 {
			t.Fatalf("Best of an empty list: %d", got)
		}
	}
}

// A room is memory, from its first byte up to behind its last one.
type room struct {
	from, to uintptr
	what     string
}

// rooms are those of all lists, with their spare room, and of all texts of a thing.
func rooms(v reflect.Value, what string) []room {
	var list []room
	switch v.Kind() {
	case reflect.Struct:
		for i := range v.NumField() {
			list = append(list, rooms(v.Field(i), what+"."+v.Type().Field(i).Name)...)
		}
	case reflect.Slice:
		if v.Cap() > 0 {
			list = append(list, room{v.Pointer(), v.Pointer() + uintptr(v.Cap())*v.Type().Elem().Size(), what})
		}
		for i := range v.Len() {
			list = append(list, rooms(v.Index(i), fmt.Sprint(what, i))...)
		}
	case reflect.String:
		if text := v.String(); text != "" {
			from := uintptr(unsafe.Pointer(unsafe.StringData(text)))
			list = append(list, room{from, from + uintptr(len(text)), what})
		}
	}
	return list
}

// TestNewMemory: what is answered shares no memory with an argument, with another answer, nor within itself.
func TestNewMemory(t *testing.T) {
	r := rand.New(rand.NewSource(13))
	for range 300 {
		x := draw(r)
		x.a, x.b, x.key = roomy(x.a), roomy(x.b), roomy(x.key)
		var all []room
		for i, y := range []any{x.s, x.table, x.a, x.b, x.key, x.text, x.bytes} {
			all = append(all, rooms(reflect.ValueOf(y), fmt.Sprint("argument ", i))...)
		}
		for round := range 2 {
			for i, y := range x.calls() {
				for _, a := range rooms(reflect.ValueOf(y), fmt.Sprint("answer ", i, " of round ", round)) {
					// A text of one byte may be one of the runtime's own.
					if a.to-a.from == 1 {
						continue
					}
					for _, b := range all {
						if a.from < b.to && b.from < a.to {
							t.Fatalf("%s shares memory with %s", a.what, b.what)
						}
					}
					all = append(all, a)
				}
			}
		}
	}
}

// TestTextsAreNew: texts that are changed behind an answer's back do not change it.
func TestTextsAreNew(t *testing.T) {
	mutable := func(s string) (string, []byte) {
		b := []byte(s)
		return unsafe.String(&b[0], len(b)), b
	}
	name, underName := mutable("act")
	text, underText := mutable("0x7 -> act(0x9)")
	s := keyed(kindred{api.Exact, 8})
	s.Actions = []api.Action{{Name: name, Params: []api.Field{{Name: "p", Width: 8}}}}
	s.Tables[0].Actions, s.Tables[0].Default = []string{name}, call(name, 1)
	e := entry(0, call(name, 9), exactly(7))
	read, _ := match.Parse(s, "t", text)
	unpacked, _ := match.Unpack(s, "t", "\x07\x00\x09")
	written, _ := match.Text(s, "t", e)
	copy(underName, "XXX")
	copy(underText, "XXXXXXXXXXXXXXX")
	want := entry(0, call("act", 9), exactly(7))
	if !same(read, want) || !same(unpacked, want) || written != "0x7 -> act(0x9)" {
		t.Errorf("%s, %s, %q", short(read), short(unpacked), written)
	}
}

// R4

// TestOnNothingElse: the same is answered again and again, and side by side.
func TestOnNothingElse(t *testing.T) {
	r := rand.New(rand.NewSource(14))
	for range 60 {
		x := draw(r)
		want := x.calls()
		var all sync.WaitGroup
		for range 4 {
			all.Go(func() {
				for range 5 {
					if got := x.calls(); !reflect.DeepEqual(got, want) {
						t.Errorf("it is answered otherwise: %s; want %s", short(got), short(want))
					}
				}
			})
		}
		all.Wait()
	}
}
