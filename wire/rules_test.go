package wire_test

import (
	"fmt"
	"math"
	"math/rand"
	"reflect"
	"strings"
	"sync"
	"testing"
	"unsafe"

	"turnout/api"
	"turnout/schema"
	"turnout/wire"
)

// calls are all calls of the package with these arguments; what each answers.
func calls(s api.Schema, p api.Packet, in []api.Bits, packet string, r api.Ref, header string) []any {
	taken, e := wire.Parse(s, in, packet)
	built, e2 := wire.Build(s, p)
	var f api.Filled
	if len(p.Heads) > 0 {
		f = p.Heads[0]
	}
	b, e3 := wire.Bytes(s, f)
	from, e4 := wire.From(s, header, packet)
	return []any{
		taken, e, built, e2, wire.Right(s, p), wire.Get(s, p, r), wire.Set(s, p, r, most),
		wire.Add(s, p, header), wire.Remove(s, p, header), wire.Sum(s, p, r), b, e3, from, e4,
	}
}

// R1

// TestGreat: lists, texts and numbers far above all limits are answered.
func TestGreat(t *testing.T) {
	const many = 1 << 16
	huge := strings.Repeat("a", 1<<20)
	for what, change := range map[string]func(s *api.Schema, p *api.Packet){
		"headers":  func(s *api.Schema, p *api.Packet) { s.Headers = make([]api.Header, many) },
		"fields":   func(s *api.Schema, p *api.Packet) { s.Headers[0].Fields = make([]api.Field, many) },
		"metadata": func(s *api.Schema, p *api.Packet) { s.Meta = make([]api.Field, many) },
		"states":   func(s *api.Schema, p *api.Packet) { s.States = make([]api.State, many) },
		"cases":    func(s *api.Schema, p *api.Packet) { s.States[0].Cases = make([]api.Case, many) },
		"actions":  func(s *api.Schema, p *api.Packet) { s.Actions = make([]api.Action, many) },
		"tables":   func(s *api.Schema, p *api.Packet) { s.Tables = make([]api.Table, many) },
		"stages":   func(s *api.Schema, p *api.Packet) { s.Control = make([]api.Stage, many) },
		"a name":   func(s *api.Schema, p *api.Packet) { s.Headers[0].Name = huge },
		"a width":  func(s *api.Schema, p *api.Packet) { s.Headers[0].Fields[0].Width = math.MaxInt },
		"widths below 0": func(s *api.Schema, p *api.Packet) {
			s.Headers[0].Fields[0].Width, s.Headers[0].Fields[1].Width = math.MinInt, -8
		},
		"a loop":       func(s *api.Schema, p *api.Packet) { s.States[1].Next = "first" },
		"no header":    func(s *api.Schema, p *api.Packet) { s.States[1].Header = "x" },
		"no next":      func(s *api.Schema, p *api.Packet) { s.States[1].Next = "x" },
		"no On":        func(s *api.Schema, p *api.Packet) { s.States[1].On = ref("x", "x") },
		"header of no": func(s *api.Schema, p *api.Packet) { s.Headers[1].Fields = nil },
	} {
		s, p := whole(), smallPacket()
		change(&s, &p)
		checkUnsound(t, what, s, p)
	}
	for what, change := range map[string]func(p *api.Packet){
		"heads":       func(p *api.Packet) { p.Heads = make([]api.Filled, many) },
		"heads alike": func(p *api.Packet) { p.Heads = manyOf(p.Heads[0], many) },
		"values":      func(p *api.Packet) { p.Heads[0].Values = make([]api.Bits, many) },
		"meta":        func(p *api.Packet) { p.Meta = make([]api.Bits, many) },
		"a name":      func(p *api.Packet) { p.Heads[1].Name = huge },
	} {
		s, p := small(), smallPacket()
		change(&p)
		if e := wire.Right(s, p); e != api.ErrPacket {
			t.Errorf("%s: %d", what, e)
		}
		calls(s, p, nil, huge, ref(huge, huge), huge)
	}
	s, p := small(), smallPacket()
	p.Rest = huge
	checkBuild(t, "a great rest", s, p, "", api.ErrLong)
	want := smallPacket()
	want.Heads[0].Values[0] = n(7)
	want.Rest = huge
	checkPacket(t, "a great rest", wire.Set(s, p, ref("eth", "dst"), n(7)), want)
	checkParse(t, "a great in", s, make([]api.Bits, many), smallBytes, api.Packet{Heads: smallPacket().Heads, Meta: ns(0), Rest: "\x08"}, api.OK)
	checkPacket(t, "a great name", wire.Add(s, smallPacket(), huge), smallPacket())
	checkPacket(t, "a great reference", wire.Set(s, smallPacket(), ref(huge, huge), most), smallPacket())
}

func manyOf[T any](x T, many int) []T {
	list := make([]T, many)
	for i := range list {
		list[i] = x
	}
	return list
}

// checkUnsound: every call of a schema that is not sound answers nothing.
func checkUnsound(t *testing.T, what string, s api.Schema, p api.Packet) {
	t.Helper()
	if e, _ := schema.Check(s); e == api.OK {
		t.Fatalf("%s: it is sound", what)
	}
	want := []any{
		api.Packet{}, api.ErrSchema, "", api.ErrSchema, api.ErrSchema, api.Bits{}, api.Packet{},
		api.Packet{}, api.Packet{}, api.Packet{}, "", api.ErrSchema, api.Filled{}, api.ErrSchema,
	}
	if got := calls(s, p, ns(1), smallBytes, ref("eth", "dst"), "eth"); !reflect.DeepEqual(got, want) {
		t.Errorf("%s: %s", what, short(got))
	}
}

// R3

// roomy is a copy whose lists all have spare room, with something in it.
func roomy[T any](x T) T {
	out := deepCopy(x)
	var give func(reflect.Value)
	give = func(v reflect.Value) {
		switch v.Kind() {
		case reflect.Struct:
			for i := range v.NumField() {
				give(v.Field(i))
			}
		case reflect.Slice:
			for i := range v.Len() {
				give(v.Index(i))
			}
			wide := reflect.MakeSlice(v.Type(), v.Len()+3, v.Len()+3)
			reflect.Copy(wide, v)
			for i := v.Len(); i < wide.Len(); i++ {
				mark(wide.Index(i))
			}
			v.Set(wide.Slice(0, v.Len()))
		}
	}
	give(reflect.ValueOf(&out).Elem())
	return out
}

// mark makes a thing of spare room one that would be seen.
func mark(v reflect.Value) {
	switch v.Kind() {
	case reflect.Struct:
		for i := range v.NumField() {
			mark(v.Field(i))
		}
	case reflect.String:
		v.SetString("spare")
	case reflect.Int:
		v.SetInt(1)
	case reflect.Uint64:
		v.SetUint(1)
	}
}

// seen is a thing with the spare room of its lists, as a text.
func seen(x any) string {
	var b strings.Builder
	lists(reflect.ValueOf(x), func(v reflect.Value) {
		fmt.Fprintf(&b, "%d %d %+v\n", v.Len(), v.Cap(), v.Slice(0, v.Cap()))
	})
	return b.String()
}

// TestHandedInStays: what is handed in is not changed, and its spare room neither counts nor is it changed.
func TestHandedInStays(t *testing.T) {
	r := rand.New(rand.NewSource(12))
	for range 300 {
		s := drawSound(r)
		p, in := drawPacket(r, s), drawIn(r, s)
		at, header, packet := drawRef(r, s), drawHeader(r, s), drawBytes(r, r.Intn(100))
		want := calls(s, p, in, packet, at, header)
		s, p, in = roomy(s), roomy(p), roomy(in)
		before := seen(s) + seen(p) + seen(in)
		got := calls(s, p, in, packet, at, header)
		if !reflect.DeepEqual(got, want) {
			t.Fatalf("with spare room %s; want %s", short(got), short(want))
		}
		if seen(s)+seen(p)+seen(in) != before {
			t.Fatalf("it was changed: %s, %s", short(p), short(s))
		}
	}
}

// TestNilAndEmpty: nil and empty lists are one, in a schema, in a packet, and as in.
func TestNilAndEmpty(t *testing.T) {
	r := rand.New(rand.NewSource(13))
	empty := func(v reflect.Value) {
		lists(v, func(v reflect.Value) {
			if v.IsNil() {
				v.Set(reflect.MakeSlice(v.Type(), 0, 2))
			}
		})
	}
	for range 300 {
		s := drawSound(r)
		p := drawPacket(r, s)
		at, header, packet := drawRef(r, s), drawHeader(r, s), drawBytes(r, r.Intn(60))
		want := calls(s, p, nil, packet, at, header)
		s, p = plain(s), plain(p)
		empty(reflect.ValueOf(&s).Elem())
		empty(reflect.ValueOf(&p).Elem())
		got := calls(s, p, []api.Bits{}, packet, at, header)
		for i := range want {
			if one, ok := got[i].(api.Packet); ok {
				checkPacket(t, "empty lists", one, want[i].(api.Packet))
			} else if !reflect.DeepEqual(got[i], want[i]) {
				t.Errorf("empty lists: %v; want %v", got[i], want[i])
			}
		}
	}
	checkPacket(t, "no heads", wire.Remove(small(), api.Packet{Heads: []api.Filled{}, Meta: ns(1)}, "ip"), api.Packet{Meta: ns(1)})
	checkPacket(t, "no metadata", wire.Add(api.Schema{}, api.Packet{Meta: []api.Bits{}}, "x"), api.Packet{})
}

// A room is memory, from its first byte up to behind its last one.
type room struct {
	from, to uintptr
	what     string
}

// rooms are those of all lists, with their spare room, and of all texts of a thing.
func rooms(v reflect.Value, what string) []room {
	var list []room
	switch v.Kind() {
	case reflect.Struct:
		for i := range v.NumField() {
			list = append(list, rooms(v.Field(i), what+"."+v.Type().Field(i).Name)...)
		}
	case reflect.Slice:
		if v.Cap() > 0 {
			list = append(list, room{v.Pointer(), v.Pointer() + uintptr(v.Cap())*v.Type().Elem().Size(), what})
		}
		for i := range v.Len() {
			list = append(list, rooms(v.Index(i), fmt.Sprint(what, i))...)
		}
	case reflect.String:
		if text := v.String(); text != "" {
			from := uintptr(unsafe.Pointer(unsafe.StringData(text)))
			list = append(list, room{from, from + uintptr(len(text)), what})
		}
	}
	return list
}

// TestNewMemory: what is answered shares no memory with an argument, with another answer, nor within itself.
func TestNewMemory(t *testing.T) {
	r := rand.New(rand.NewSource(14))
	for range 200 {
		s := drawSound(r)
		p, in := roomy(drawPacket(r, s)), roomy(drawIn(r, s))
		p.Rest += "rest"
		packet := strings.Clone(drawBytes(r, 2+r.Intn(100)))
		at, header := drawRef(r, s), drawHeader(r, s)
		if len(p.Heads) > 0 && r.Intn(2) == 0 {
			// From answers something of bytes that are as many as the header has.
			h, _ := modelHeader(s, p.Heads[0].Name)
			header, packet = h.Name, strings.Clone(drawBytes(r, 2*modelSize(h)))[:modelSize(h)]
		}
		var all []room
		for i, x := range []any{s, p, in, packet, at, header} {
			// The arguments may share memory among themselves.
			for _, y := range rooms(reflect.ValueOf(x), fmt.Sprint("argument ", i)) {
				y.what = "argument " + y.what
				all = append(all, y)
			}
		}
		for round := range 2 {
			for i, x := range calls(s, p, in, packet, at, header) {
				mine := rooms(reflect.ValueOf(x), fmt.Sprint("answer ", i, " of round ", round))
				for _, a := range mine {
					// A text of one byte may be one of the runtime's own.
					if a.to-a.from == 1 {
						continue
					}
					for _, b := range all {
						if a.from < b.to && b.from < a.to {
							t.Fatalf("%s shares memory with %s", a.what, b.what)
						}
					}
					all = append(all, a)
				}
			}
		}
	}
}

// TestTextsAreNew: texts that are changed behind an answer's back do not change it.
func TestTextsAreNew(t *testing.T) {
	mutable := func(s string) (string, []byte) {
		b := []byte(s)
		return unsafe.String(&b[0], len(b)), b
	}
	name, underName := mutable("head")
	rest, underRest := mutable("ab rest")
	s := api.Schema{Headers: []api.Header{{Name: name, Fields: fields(16)}}, States: []api.State{state("a", name, "accept")}}
	p := api.Packet{Heads: []api.Filled{filled(name, 0x6162)}, Rest: rest[2:]}
	taken, _ := wire.Parse(s, nil, rest)
	set := wire.Set(s, p, ref(name, "f0"), n(0x6162))
	added := wire.Add(s, api.Packet{Rest: rest[2:]}, name)
	from, _ := wire.From(s, name, rest[:2])
	built, _ := wire.Build(s, p)
	alone, _ := wire.Build(s, api.Packet{Rest: rest})
	removed := wire.Remove(s, p, name)
	copy(underName, "XXXX")
	copy(underRest, "XXXXXXX")
	want := api.Packet{Heads: []api.Filled{filled("head", 0x6162)}, Rest: " rest"}
	checkPacket(t, "Parse", taken, want)
	checkPacket(t, "Set", set, want)
	checkPacket(t, "Add", added, api.Packet{Heads: []api.Filled{filled("head", 0)}, Rest: " rest"})
	checkPacket(t, "Remove", removed, api.Packet{Rest: " rest"})
	if from.Name != "head" || built != "ab rest" || alone != "ab rest" {
		t.Errorf("%s, %q, %q", short(from), built, alone)
	}
}

// R4

// TestOnNothingElse: the same is answered again and again, and side by side.
func TestOnNothingElse(t *testing.T) {
	r := rand.New(rand.NewSource(15))
	for range 60 {
		s := drawSound(r)
		p, in := drawPacket(r, s), drawIn(r, s)
		at, header, packet := drawRef(r, s), drawHeader(r, s), drawBytes(r, r.Intn(100))
		want := calls(s, p, in, packet, at, header)
		var all sync.WaitGroup
		for range 4 {
			all.Go(func() {
				for range 5 {
					if got := calls(s, p, in, packet, at, header); !reflect.DeepEqual(got, want) {
						t.Errorf("it is answered otherwise: %s; want %s", short(got), short(want))
					}
				}
			})
		}
		all.Wait()
	}
}
