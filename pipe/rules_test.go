package pipe_test

import (
	"fmt"
	"math"
	"math/rand"
	"reflect"
	"runtime"
	"slices"
	"strings"
	"sync"
	"testing"
	"unsafe"
	"weak"

	"turnout/api"
	"turnout/pipe"
	"turnout/schema"
	"turnout/wire"
)

// R1

// TestTotal: calls and packets of any numbers, texts and lists: each is refused as its first error says, or done.
func TestTotal(t *testing.T) {
	d := &drawer{Rand: rand.New(rand.NewSource(6))}
	met := map[api.Errno]int{}
	for range 600 {
		d.s = drawSound(d.Rand)
		p := ready(t, d.s)
		for range 10 {
			a := d.s.Actions[d.Intn(len(d.s.Actions))]
			c, k := api.Call{Action: a.Name, Args: d.values(a.Params)}, d.taken()
			d.turnCall(&c)
			d.turnPacket(&k)
			want := refused(d.s, c, k)
			met[want]++
			if want == api.OK {
				checkLikeModel(t, p, d.s, c, k)
			} else {
				checkNoAct(t, p, c, k, want)
			}
		}
		if t.Failed() {
			t.Fatalf("schema %s", short(d.s))
		}
	}
	for _, e := range []api.Errno{api.OK, api.ErrPacket, api.ErrAction, api.ErrArgs} {
		if met[e] < 100 {
			t.Errorf("the error %d was met %d times", e, met[e])
		}
	}
}

// refused is why an action can't be done.
func refused(s api.Schema, c api.Call, k api.Packet) api.Errno {
	if wire.Right(s, k) != api.OK {
		return api.ErrPacket
	}
	a, ok := schema.Action(s, c.Action)
	if !ok {
		return api.ErrAction
	}
	if len(c.Args) != len(a.Params) {
		return api.ErrArgs
	}
	for i, x := range c.Args {
		if cut(x, a.Params[i].Width) != x {
			return api.ErrArgs
		}
	}
	return api.OK
}

func (d *drawer) turnCall(c *api.Call) {
	switch d.Intn(8) {
	case 0:
		c.Action = []string{"", "x", "a", "A0", "\xff\x00", "meta", strings.Repeat("a", 1000), c.Action + " "}[d.Intn(8)]
	case 1:
		c.Args = append(c.Args, d.value(128))
	case 2:
		c.Args = c.Args[:d.Intn(len(c.Args)+1)]
	case 3:
		for i := range c.Args {
			c.Args[i] = d.value(128)
		}
	}
}

func (d *drawer) turnPacket(k *api.Packet) {
	var head *api.Filled
	if len(k.Heads) > 0 {
		head = &k.Heads[d.Intn(len(k.Heads))]
	}
	switch kind := d.Intn(14); {
	case kind == 0:
		k.Meta = append(k.Meta, d.value(1))
	case kind == 1 && len(k.Meta) > 0:
		k.Meta[d.Intn(len(k.Meta))] = d.value(128)
	case kind > 5 || head == nil:
	case kind == 2:
		head.Values = append(head.Values, d.value(128))
	case kind == 3:
		head.Values[d.Intn(len(head.Values))] = d.value(128)
	case kind == 4:
		head.Name = d.name(d.Intn(5))
	case kind == 5:
		k.Heads = append(k.Heads, *head)
	}
}

// TestGreat: lists, texts and numbers far above all limits are answered.
func TestGreat(t *testing.T) {
	const many = 1 << 16
	huge := strings.Repeat("a", 1<<20)
	s := schemaOf(t, small)
	p, from := ready(t, s), set(t, s, entries())
	right := api.Packet{Heads: []api.Filled{head("eth", 1, 2)}, Meta: ns(3)}
	for what, k := range map[string]api.Packet{
		"heads":       {Heads: make([]api.Filled, many), Meta: ns(3)},
		"heads alike": {Heads: slices.Repeat(right.Heads, many), Meta: ns(3)},
		"values":      {Heads: []api.Filled{{Name: "eth", Values: make([]api.Bits, many)}}, Meta: ns(3)},
		"metadata":    {Heads: right.Heads, Meta: make([]api.Bits, many)},
		"a name":      {Heads: []api.Filled{{Name: huge, Values: ns(1, 2)}}, Meta: ns(3)},
	} {
		t.Run(what, func(t *testing.T) { checkNoAct(t, p, call("out", 1), k, api.ErrPacket) })
	}
	checkNoAct(t, p, call(huge), right, api.ErrAction)
	checkNoAct(t, p, api.Call{Action: "out", Args: make([]api.Bits, many)}, right, api.ErrArgs)
	want := plain(right)
	want.Rest, right.Rest, want.Meta = huge, huge, ns(9)
	checkAct(t, p, call("out", 9), right, want, false, false)
	checkRun(t, p, from, make([]api.Bits, many), "\x01\x02", api.Result{Out: "\x01\x02", Meta: ns(9), Rounds: 1, Trace: []api.Hit{inT(1, call("out", 9))}})
	checkRun(t, p, from, nil, huge, api.Result{Error: api.ErrLong})
	hit := api.Hit{Table: huge, Found: true, Entry: api.Entry{Match: make([]api.Match, many), Priority: math.MinInt, Call: api.Call{Action: huge, Args: make([]api.Bits, many)}}, Call: call("out", 7)}
	says := source(func(string, []api.Bits) (api.Hit, api.Errno) { return hit, api.OK })
	checkRun(t, p, says, nil, "\x01\x02", api.Result{Out: "\x01\x02", Meta: ns(7), Rounds: 1, Trace: []api.Hit{hit}})
	for i, r := range p.Many(from, nil, slices.Repeat([]string{"\x01\x02"}, many)...) {
		if r.Out != "\x01\x02" || len(r.Trace) != 1 {
			t.Fatalf("%d: %s", i, short(r))
		}
	}
	for what, change := range map[string]func(s *api.Schema){
		"headers": func(s *api.Schema) { s.Headers = make([]api.Header, many) },
		"actions": func(s *api.Schema) { s.Actions = make([]api.Action, many) },
		"tables":  func(s *api.Schema) { s.Tables = make([]api.Table, many) },
		"stages":  func(s *api.Schema) { s.Control = make([]api.Stage, many) },
		"a name":  func(s *api.Schema) { s.Tables[0].Name = huge },
		"a width": func(s *api.Schema) { s.Actions[0].Params[0].Width = math.MaxInt },
		"a depth": func(s *api.Schema) {
			for range many {
				s.Control = []api.Stage{{Kind: api.StageIf, Test: api.Test{Kind: api.TestValid, A: api.Operand{Ref: ref("eth", "")}}, Then: s.Control}}
			}
		},
	} {
		s := schemaOf(t, small)
		change(&s)
		if p, e := pipe.New(s); p != nil || e != api.ErrSchema {
			t.Errorf("%s: %v %d", what, p, e)
		}
	}
}

// R3

// roomy is a copy whose lists all have spare room, with something in it.
func roomy[T any](x T) T {
	out := plain(x)
	everyList(reflect.ValueOf(&out).Elem(), func(v reflect.Value) {
		wide := reflect.MakeSlice(v.Type(), v.Len()+3, v.Len()+3)
		reflect.Copy(wide, v)
		for i := v.Len(); i < wide.Len(); i++ {
			mark(wide.Index(i))
		}
		v.Set(wide.Slice(0, v.Len()))
	})
	return out
}

// everyList hands over all lists of a thing, those within others first.
func everyList(v reflect.Value, f func(reflect.Value)) {
	switch v.Kind() {
	case reflect.Struct:
		for i := range v.NumField() {
			everyList(v.Field(i), f)
		}
	case reflect.Slice:
		for i := range v.Len() {
			everyList(v.Index(i), f)
		}
		f(v)
	}
}

// mark makes a thing one that would be seen.
func mark(v reflect.Value) {
	switch v.Kind() {
	case reflect.Struct:
		for i := range v.NumField() {
			mark(v.Field(i))
		}
	case reflect.String:
		v.SetString("spare")
	case reflect.Int:
		v.SetInt(1)
	case reflect.Uint64:
		v.SetUint(1)
	}
}

// spoil changes all that stands in a thing's lists, and in their spare room.
func spoil[T any](x T) {
	everyList(reflect.ValueOf(&x).Elem(), func(v reflect.Value) {
		for i := range v.Cap() {
			one := v.Slice(0, v.Cap()).Index(i)
			if one.Kind() == reflect.Struct {
				mark(one)
			}
		}
	})
}

// seen is a thing with the spare room of its lists, as a text.
func seen(list ...any) string {
	var b strings.Builder
	for _, x := range list {
		everyList(reflect.ValueOf(x), func(v reflect.Value) {
			fmt.Fprintf(&b, "%d %d %+v\n", v.Len(), v.Cap(), v.Slice(0, v.Cap()))
		})
	}
	return b.String()
}

// told is all that calls of a pipe tell with these arguments.
type told struct {
	Acted       api.Packet
	Drop, Again bool
	Error       api.Errno
	Run         api.Result
	Many        []api.Result
}

func tells(p *pipe.Pipe, from pipe.Source, c api.Call, k api.Packet, in []api.Bits, packets []string) told {
	var out told
	out.Acted, out.Drop, out.Again, out.Error = p.Act(c, k)
	out.Run = p.Run(from, in, packets[0])
	out.Many = p.Many(from, in, packets...)
	return out
}

// asked draws arguments for all calls.
func (d *drawer) asked() (api.Call, api.Packet, []api.Bits, []string) {
	a := d.s.Actions[d.Intn(len(d.s.Actions))]
	return api.Call{Action: a.Name, Args: d.values(a.Params)}, d.taken(), d.in(), []string{d.packet(), d.packet(), d.packet()}
}

// TestHandedInStays: what is handed in, and what a source answers, is not changed, and its spare room neither counts nor is it changed.
func TestHandedInStays(t *testing.T) {
	d := &drawer{Rand: rand.New(rand.NewSource(7))}
	for range 300 {
		d.s = drawSound(d.Rand)
		c, k, in, packets := d.asked()
		from := d.hashed(5)
		want := tells(ready(t, d.s), from, c, k, in, packets)
		s := roomy(d.s)
		c, k, in, packets = roomy(c), roomy(k), roomy(in), roomy(packets)
		before := seen(s, c, k, in, packets)
		var lock sync.Mutex
		var hits []api.Hit
		var were []string
		roomier := source(func(table string, key []api.Bits) (api.Hit, api.Errno) {
			h, e := from(table, key)
			h = roomy(h)
			lock.Lock()
			defer lock.Unlock()
			hits, were = append(hits, h), append(were, seen(h))
			return h, e
		})
		p := ready(t, s)
		if got := tells(p, roomier, c, k, in, packets); !alike(got, want) {
			t.Fatalf("with spare room %s; want %s", short(got), short(want))
		}
		if seen(s, c, k, in, packets) != before {
			t.Fatalf("it was changed: %s %s %s", short(c), short(k), short(in))
		}
		for i, h := range hits {
			if seen(h) != were[i] {
				t.Fatalf("a hit was changed: %s", short(h))
			}
		}
	}
}

// TestNilAndEmpty: nil and empty lists are one, in a schema, a call, a packet, as in, and in a hit.
func TestNilAndEmpty(t *testing.T) {
	d := &drawer{Rand: rand.New(rand.NewSource(8))}
	empty := func(x reflect.Value) {
		everyList(x, func(v reflect.Value) {
			if v.IsNil() {
				v.Set(reflect.MakeSlice(v.Type(), 0, 2))
			}
		})
	}
	for range 300 {
		d.s = drawSound(d.Rand)
		c, k, _, packets := d.asked()
		from := d.hashed(5)
		want := tells(ready(t, d.s), from, c, k, nil, packets)
		s := plain(d.s)
		empty(reflect.ValueOf(&s).Elem())
		empty(reflect.ValueOf(&c).Elem())
		empty(reflect.ValueOf(&k).Elem())
		emptier := source(func(table string, key []api.Bits) (api.Hit, api.Errno) {
			h, e := from(table, key)
			empty(reflect.ValueOf(&h).Elem())
			return h, e
		})
		if got := tells(ready(t, s), emptier, c, k, []api.Bits{}, packets); !alike(got, want) {
			t.Fatalf("with empty lists %s; want %s", short(got), short(want))
		}
	}
	p := ready(t, schemaOf(t, small))
	if got := p.Many(nil, nil, []string{}...); len(got) != 0 {
		t.Errorf("Many of nothing tells %v", got)
	}
}

// A room is memory, from its first byte up to behind its last one.
type room struct {
	from, to uintptr
	what     string
}

// rooms are those of all lists, with their spare room, and of all texts of a thing.
func rooms(v reflect.Value, what string) []room {
	var list []room
	switch v.Kind() {
	case reflect.Struct:
		for i := range v.NumField() {
			list = append(list, rooms(v.Field(i), what+"."+v.Type().Field(i).Name)...)
		}
	case reflect.Slice:
		if v.Cap() > 0 {
			list = append(list, room{v.Pointer(), v.Pointer() + uintptr(v.Cap())*v.Type().Elem().Size(), what})
		}
		for i := range v.Len() {
			list = append(list, rooms(v.Index(i), fmt.Sprint(what, i))...)
		}
	case reflect.String:
		if text := v.String(); text != "" {
			from := uintptr(unsafe.Pointer(unsafe.StringData(text)))
			list = append(list, room{from, from + uintptr(len(text)), what})
		}
	}
	return list
}

// A keeper is a source that keeps all that it was handed and all that it answered; a hit's call and its entry's share their arguments.
type keeper struct {
	pipe.Source
	sync.Mutex
	keys [][]api.Bits
	hits []api.Hit
}

func (k *keeper) Lookup(table string, key ...api.Bits) (api.Hit, api.Errno) {
	h, e := k.Source.Lookup(table, key...)
	h.Entry.Call = h.Call
	k.Lock()
	defer k.Unlock()
	k.keys, k.hits = append(k.keys, key), append(k.hits, h)
	return h, e
}

// TestNewMemory: what is answered, and each key, shares no memory with an argument, with what a source answered, with another answer, nor within itself.
func TestNewMemory(t *testing.T) {
	d := &drawer{Rand: rand.New(rand.NewSource(9))}
	for range 150 {
		d.s = drawSound(d.Rand)
		p, k := ready(t, d.s), &keeper{Source: d.hashed(0)}
		c, taken, in, packets := d.asked()
		var first, second told
		first = tells(p, k, c, taken, in, packets)
		second = tells(p, k, c, taken, in, packets)
		var all []room
		for i, x := range []any{d.s, c, taken, in, packets, k.hits} {
			all = append(all, rooms(reflect.ValueOf(x), fmt.Sprint("what was handed in ", i))...)
		}
		for _, x := range []any{k.keys, first, second} {
			for _, a := range rooms(reflect.ValueOf(x), fmt.Sprintf("%T", x)) {
				// A text of one byte may be one of the runtime's own.
				if a.to-a.from == 1 {
					continue
				}
				for _, b := range all {
					if a.from < b.to && b.from < a.to {
						t.Fatalf("%s shares memory with %s", a.what, b.what)
					}
				}
				all = append(all, a)
			}
		}
	}
}

// P16.6

// A spoiler is a source that scribbles on the keys that it was handed, at once and later, and on what it answered, as soon as it is asked again. It takes one packet at a time.
type spoiler struct {
	pipe.Source
	keys [][]api.Bits
	hits []api.Hit
}

func (s *spoiler) Lookup(table string, key ...api.Bits) (api.Hit, api.Errno) {
	h, e := s.Source.Lookup(table, key...)
	spoil(key)
	s.spoilAll()
	h = plain(h)
	s.keys, s.hits = append(s.keys, key), append(s.hits, h)
	return h, e
}

func (s *spoiler) spoilAll() {
	spoil(s.hits)
	spoil(s.keys)
}

// TestSpoilt: what a source does with its keys and its answers changes no result; nor what is done with other results, nor with what was handed in.
func TestSpoilt(t *testing.T) {
	d := &drawer{Rand: rand.New(rand.NewSource(10))}
	for range 300 {
		d.s = drawSound(d.Rand)
		c, k, in, packets := d.asked()
		from := d.hashed(5)
		want := plain(tells(ready(t, d.s), from, c, k, in, packets))
		s := plain(d.s)
		p := ready(t, s)
		spoil(s)
		wild := &spoiler{Source: from}
		first := tells(p, wild, c, k, in, packets[:1])
		for _, packet := range packets[1:] {
			first.Many = append(first.Many, p.Many(wild, in, packet)...)
		}
		wild.spoilAll()
		checkTold(t, "a wild source", first, want)
		second := tells(p, from, c, k, in, packets)
		spoil(first)
		checkTold(t, "behind one that was spoilt", second, want)
		for i := range second.Many {
			spoil(second.Many[i].Meta)
			for j := range second.Many[i].Trace {
				h := &second.Many[i].Trace[j]
				spoil(h.Entry.Match)
				spoil(h.Entry.Call)
				if !alike(h.Call, want.Many[i].Trace[j].Call) {
					t.Errorf("a hit's call shares memory with its entry")
				}
				spoil(h.Call)
				rest := second.Many[i].Trace[j+1:]
				if !alike(rest, want.Many[i].Trace[j+1:]) {
					t.Errorf("hits share memory: %s", short(rest))
				}
			}
			checkResult(t, "Run's", second.Run, want.Run)
			if !alike(second.Many[i+1:], want.Many[i+1:]) {
				t.Errorf("results share memory")
			}
		}
		third := tells(p, from, c, k, in, packets)
		spoil(c)
		spoil(k)
		spoil(in)
		spoil(packets)
		checkTold(t, "spoilt arguments", third, want)
		if t.Failed() {
			t.Fatalf("schema %s", short(d.s))
		}
	}
}

func checkTold(t *testing.T, what string, got, want told) {
	t.Helper()
	if !alike(got, want) {
		t.Errorf("%s: %s\nwant %s", what, short(got), short(want))
	}
}

// mutable is a text, and its bytes.
func mutable(text string) (string, []byte) {
	b := []byte(text)
	return unsafe.String(&b[0], len(b)), b
}

// TestTextsAreNew: texts that are changed behind a call's back change neither the pipe nor an answer.
func TestTextsAreNew(t *testing.T) {
	s := schemaOf(t, small)
	var under [][]byte
	own := func(text *string) {
		var b []byte
		*text, b = mutable(*text)
		under = append(under, b)
	}
	s.Actions = s.Actions[:1]
	s.Tables[0].Actions, s.Tables[0].Default = []string{"out"}, call("out", 5)
	for _, text := range []*string{
		&s.Headers[0].Name, &s.Headers[0].Fields[0].Name, &s.Headers[1].Name, &s.Meta[0].Name, &s.States[0].Name, &s.States[0].Header, &s.States[0].Next,
		&s.Actions[0].Name, &s.Actions[0].Params[0].Name, &s.Actions[0].Steps[0].To.Head, &s.Actions[0].Steps[0].To.Name, &s.Actions[0].Steps[0].A.Ref.Name,
		&s.Tables[0].Name, &s.Tables[0].Keys[0].Ref.Head, &s.Tables[0].Keys[0].Ref.Name, &s.Tables[0].Actions[0], &s.Tables[0].Default.Action, &s.Control[0].Table,
	} {
		own(text)
	}
	p := ready(t, s)
	name, underName := mutable("eth")
	rest, underRest := mutable("rest")
	acted, _, _, e := p.Act(call("out", 8), api.Packet{Heads: []api.Filled{head(name, 1, 2)}, Meta: ns(3), Rest: rest})
	packet, underPacket := mutable("\x01\x02rest")
	hit := found("t", call("out", 9))
	own(&hit.Table)
	own(&hit.Call.Action)
	own(&hit.Entry.Call.Action)
	says := source(func(string, []api.Bits) (api.Hit, api.Errno) { return hit, api.OK })
	r := p.Run(says, nil, packet)
	for _, b := range append(under, underName, underRest, underPacket) {
		clear(b)
	}
	want := api.Packet{Heads: []api.Filled{head("eth", 1, 2)}, Meta: ns(8), Rest: "rest"}
	if e != api.OK || !alike(acted, want) {
		t.Errorf("Act: %s %d", short(acted), e)
	}
	wanted := api.Result{Out: "\x01\x02rest", Meta: ns(9), Rounds: 1, Trace: []api.Hit{found("t", call("out", 9))}}
	checkResult(t, "Run", r, wanted)
	checkRun(t, p, always(found("", call("out", 9))), nil, "\x01\x02rest", wanted)
	checkAct(t, p, call("out", 8), api.Packet{Heads: []api.Filled{head("eth", 1, 2)}, Meta: ns(3), Rest: "rest"}, want, false, false)
	checkTrace(t, p, always(missed("", call("out", 9))), nil, "\x01\x02", "t 1")
}

// long is a text in memory of its own, which is a piece of a longer one.
func long(text string) (string, weak.Pointer[byte]) {
	whole := strings.Repeat(text, 1000)
	return whole[:len(text)], weak.Make(unsafe.StringData(whole))
}

// TestLetGo: a pipe keeps nothing of a packet, of a source, nor of a schema as it lay with its owner.
func TestLetGo(t *testing.T) {
	var texts []weak.Pointer[byte]
	var lists []weak.Pointer[api.Bits]
	own := func(text string) string {
		text, p := long(text)
		texts = append(texts, p)
		return text
	}
	owned := func(values ...uint64) []api.Bits {
		list := ns(values...)
		lists = append(lists, weak.Make(&list[0]))
		return list
	}
	s := schemaOf(t, small)
	s.Headers[0].Name, s.Meta[0].Name, s.Tables[0].Name, s.Actions[0].Name, s.Control[0].Table = own("eth"), own("port"), own("t"), own("out"), own("t")
	s.Actions[0].Steps[0].To.Name = own("port")
	headers := weak.Make(&s.Headers[0])
	p := ready(t, s)
	s = api.Schema{}
	from := source(func(string, []api.Bits) (api.Hit, api.Errno) {
		return api.Hit{Table: own("t"), Call: api.Call{Action: own("out"), Args: owned(5)}}, api.OK
	})
	kept, e := api.Packet{}, api.OK
	kept, _, _, e = p.Act(api.Call{Action: own("out"), Args: owned(7)}, api.Packet{Heads: []api.Filled{{Name: own("eth"), Values: owned(1, 2)}}, Meta: owned(3), Rest: own("rest")})
	r := p.Run(from, owned(9), own("\x01\x02rest"))
	// The source's own notes are not for several goroutines: so one packet a call.
	l := p.Many(from, owned(9), own("\x01\x02rest"))
	runtime.GC()
	for i, x := range texts {
		if x.Value() != nil {
			t.Errorf("text %d is held", i)
		}
	}
	for i, x := range lists {
		if x.Value() != nil {
			t.Errorf("list %d is held", i)
		}
	}
	if headers.Value() != nil {
		t.Error("the schema is held")
	}
	want := api.Result{Out: "\x01\x02rest", Meta: ns(5), Rounds: 1, Trace: []api.Hit{missed("t", call("out", 5))}}
	checkResult(t, "Run", r, want)
	checkResult(t, "Many", l[0], want)
	if e != api.OK || !alike(kept, api.Packet{Heads: []api.Filled{head("eth", 1, 2)}, Meta: ns(7), Rest: "rest"}) {
		t.Errorf("Act: %s %d", short(kept), e)
	}
	checkRun(t, p, always(missed("", call("out", 5))), nil, "\x01\x02rest", want)
}

// TestResultsLetGo: a result's owner may let its packet go, and the pipe itself.
func TestResultsLetGo(t *testing.T) {
	p := ready(t, schemaOf(t, small))
	of := weak.Make(p)
	from := always(missed("", call("out", 5)))
	k, _, _, _ := p.Act(call("push"), api.Packet{Heads: []api.Filled{head("eth", 1, 2)}, Meta: ns(7), Rest: "rest"})
	r := p.Run(from, nil, "\x01\x02rest")
	l := p.Many(from, nil, "\x01\x02rest")
	p = nil
	runtime.GC()
	if of.Value() != nil {
		t.Error("the pipe is held")
	}
	if len(k.Heads) != 2 || r.Out != l[0].Out {
		t.Errorf("%s %s", short(k), short(r))
	}
}

// R4

// TestOnNothingElse: the same is answered again and again, whatever was asked between, and side by side.
func TestOnNothingElse(t *testing.T) {
	d := &drawer{Rand: rand.New(rand.NewSource(11))}
	for range 60 {
		d.s = drawSound(d.Rand)
		p, from := ready(t, d.s), d.hashed(5)
		c, k, in, packets := d.asked()
		want := tells(p, from, c, k, in, packets)
		other, k2, in2, packets2 := d.asked()
		var all sync.WaitGroup
		for range 4 {
			all.Go(func() {
				for range 5 {
					tells(p, from, other, k2, in2, packets2)
					checkTold(t, "again", tells(p, from, c, k, in, packets), want)
				}
			})
		}
		all.Wait()
		checkTold(t, "another pipe", tells(ready(t, d.s), from, c, k, in, packets), want)
	}
}
