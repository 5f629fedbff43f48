package wire_test

import (
	"math"
	"math/rand"
	"reflect"
	"slices"
	"strconv"
	"testing"

	"turnout/api"
	"turnout/schema"
	"turnout/wire"
)

// A drawer draws sound schemas, and packets of them.
type drawer struct {
	*rand.Rand
	s api.Schema
}

// drawSound is a sound schema with headers, metadata and states.
func drawSound(r *rand.Rand) api.Schema {
	d := &drawer{Rand: r}
	d.headers()
	for i := range d.Intn(4) {
		d.s.Meta = append(d.s.Meta, api.Field{Name: d.name(i), Width: d.width()})
	}
	d.states()
	return d.s
}

// name is one of few names, so that things of unlike kinds are called alike.
func (d *drawer) name(i int) string { return string(rune('a'+d.Intn(3))) + strconv.Itoa(i) }

func (d *drawer) width() int {
	return []int{1, 2, 3, 4, 5, 7, 8, 8, 9, 12, 16, 16, 16, 24, 31, 32, 33, 63, 64, 65, 127, 128}[d.Intn(22)]
}

func (d *drawer) value(width int) api.Bits {
	a := api.Bits{Hi: d.Uint64(), Lo: d.Uint64()}
	switch d.Intn(4) {
	case 0:
		a = api.Bits{}
	case 1:
		a = most
	}
	return modelCut(a, width)
}

func (d *drawer) headers() {
	for i := range d.Intn(6) {
		h := api.Header{Name: d.name(i)}
		sum := 0
		for j := range 1 + d.Intn(6) {
			h.Fields = append(h.Fields, api.Field{Name: d.name(j), Width: d.width()})
			sum += h.Fields[j].Width
		}
		if sum%8 != 0 {
			h.Fields = append(h.Fields, api.Field{Name: "rest", Width: 8 - sum%8})
		}
		d.s.Headers = append(d.s.Headers, h)
	}
}

// refs are references to all fields of a schema.
func refs(s api.Schema) []api.Ref {
	var list []api.Ref
	for _, h := range append(slices.Clone(s.Headers), api.Header{Name: "meta", Fields: s.Meta}) {
		for _, f := range h.Fields {
			list = append(list, ref(h.Name, f.Name))
		}
	}
	return list
}

// states: one leads to others that were drawn earlier alone; the last one is the first of the schema.
func (d *drawer) states() {
	ends := []string{"accept", "accept", "accept", "reject"}
	if len(d.s.Headers) == 0 {
		return
	}
	all := refs(d.s)
	for i := range d.Intn(7) {
		next := func() string { return ends[len(ends)-1-d.Intn(min(len(ends), 4))] }
		x := state(d.name(i), d.s.Headers[d.Intn(len(d.s.Headers))].Name, next())
		if d.Intn(3) > 0 {
			x.On = all[d.Intn(len(all))]
			width := modelWidth(d.s, x.On)
			for range d.Intn(4) {
				c := api.Case{Mask: d.value(width), Next: next()}
				v := d.value(width)
				c.Value = api.Bits{Hi: v.Hi & c.Mask.Hi, Lo: v.Lo & c.Mask.Lo}
				if !slices.ContainsFunc(x.Cases, func(y api.Case) bool { return y.Value == c.Value && y.Mask == c.Mask }) {
					x.Cases = append(x.Cases, c)
				}
			}
		}
		ends = append(ends, x.Name)
		d.s.States = append(d.s.States, x)
	}
	slices.Reverse(d.s.States)
}

// drawBytes are bytes, all kinds of them.
func drawBytes(r *rand.Rand, size int) string {
	out := make([]byte, size)
	for i := range out {
		switch r.Intn(4) {
		case 0:
		case 1:
			out[i] = 0xff
		default:
			out[i] = byte(r.Intn(256))
		}
	}
	return string(out)
}

// drawIn are values for a packet's metadata: fewer, as many, or more than there are, some of which do not fit.
func drawIn(r *rand.Rand, s api.Schema) []api.Bits {
	d := &drawer{Rand: r}
	var in []api.Bits
	for range r.Intn(len(s.Meta) + 3) {
		in = append(in, d.value(128))
	}
	return in
}

// drawPacket is a right packet.
func drawPacket(r *rand.Rand, s api.Schema) api.Packet {
	d := &drawer{Rand: r}
	p := api.Packet{Rest: drawBytes(r, r.Intn(5))}
	draw := func(list []api.Field) []api.Bits {
		var values []api.Bits
		for _, f := range list {
			values = append(values, d.value(f.Width))
		}
		return values
	}
	for _, h := range s.Headers {
		if r.Intn(3) > 0 {
			p.Heads = append(p.Heads, api.Filled{Name: h.Name, Values: draw(h.Fields)})
		}
	}
	p.Meta = draw(s.Meta)
	return p
}

// drawRef is a reference: most name a field, some nearly do.
func drawRef(r *rand.Rand, s api.Schema) api.Ref {
	all := append(refs(s), ref("", ""), ref("meta", "x"), ref("x", "x"))
	one, other := all[r.Intn(len(all))], all[r.Intn(len(all))]
	switch r.Intn(8) {
	case 0:
		one.Head = other.Head
	case 1:
		one.Name = other.Name
	case 2:
		one.Head = ""
	}
	return one
}

// drawHeader is a header's name: most are there, some nearly are.
func drawHeader(r *rand.Rand, s api.Schema) string {
	list := []string{"", "meta", "x"}
	for _, h := range s.Headers {
		list = append(list, h.Name, h.Name)
	}
	return list[r.Intn(len(list))]
}

// turn changes something, anywhere in a thing.
func turn[T any](r *rand.Rand, thing *T) {
	var places []reflect.Value
	texts := []string{"", "", "meta", "accept", "x", "X"}
	var gather func(reflect.Value)
	gather = func(v reflect.Value) {
		switch v.Kind() {
		case reflect.Struct:
			if v.Type() == reflect.TypeFor[api.Bits]() {
				places = append(places, v)
				return
			}
			for i := range v.NumField() {
				gather(v.Field(i))
			}
		case reflect.Slice:
			places = append(places, v)
			for i := range v.Len() {
				gather(v.Index(i))
			}
		case reflect.String:
			texts = append(texts, v.String())
			places = append(places, v)
		default:
			places = append(places, v)
		}
	}
	gather(reflect.ValueOf(thing).Elem())
	change(r, places[r.Intn(len(places))], texts)
}

func change(r *rand.Rand, v reflect.Value, texts []string) {
	switch v.Kind() {
	case reflect.Struct:
		list := []api.Bits{{}, n(1), n(7), n(8), n(255), n(256), n(511), n(512), n(1<<16 - 1), n(1 << 16), n(1 << 32), n(1 << 48), {Hi: 1}, {Hi: 1 << 63}, most}
		v.Set(reflect.ValueOf(list[r.Intn(len(list))]))
	case reflect.Slice:
		changeList(r, v)
	case reflect.String:
		v.SetString(texts[r.Intn(len(texts))])
	case reflect.Int:
		list := []int64{-1, 0, 1, 2, 3, 4, 5, 6, 7, 8, 9, 15, 16, 17, 32, 48, 127, 128, 129, math.MaxInt64, math.MinInt64}
		v.SetInt(list[r.Intn(len(list))])
	case reflect.Bool:
		v.SetBool(!v.Bool())
	}
}

func changeList(r *rand.Rand, v reflect.Value) {
	size := v.Len()
	list := deep(v)
	switch k := r.Intn(6); {
	case k == 0:
		list = reflect.MakeSlice(v.Type(), 0, 3)
	case k == 1:
		list = reflect.Append(list, reflect.Zero(v.Type().Elem()))
	case size == 0:
	case k == 2:
		i := r.Intn(size)
		list = reflect.AppendSlice(list.Slice(0, i), list.Slice(i+1, size))
	case k == 3:
		list = reflect.Append(list, deep(v.Index(r.Intn(size))))
	case k == 4:
		reflect.Swapper(list.Interface())(r.Intn(size), r.Intn(size))
	default:
		list = list.Slice(0, r.Intn(size+1))
	}
	v.Set(list)
}

// TestDrawnParse: what packets are taken apart to is the model's. P10.1
func TestDrawnParse(t *testing.T) {
	r := rand.New(rand.NewSource(1))
	met := map[[2]int]int{}
	for range 10000 {
		s := drawSound(r)
		sound(t, "drawn", s)
		for range 4 {
			in, packet := drawIn(r, s), drawBytes(r, r.Intn(200))
			want, wantE := modelParse(s, in, packet)
			p, e := wire.Parse(s, in, packet)
			if !same(p, want) || e != wantE {
				t.Fatalf("%s %d; want %s %d: %v %x %s", short(p), e, short(want), wantE, in, packet, short(s))
			}
			met[[2]int{int(e), len(p.Heads)}]++
		}
	}
	for _, x := range [][2]int{{0, 0}, {0, 1}, {0, 2}, {0, 3}, {0, 4}, {int(api.ErrShort), 0}, {int(api.ErrAgain), 0}, {int(api.ErrReject), 0}} {
		if met[x] < 20 {
			t.Errorf("the error %d with %d headers was met %d times", x[0], x[1], met[x])
		}
	}
}

// TestDrawnPackets: all that is done with a right packet is the model's. P10.2, P10.3
func TestDrawnPackets(t *testing.T) {
	r := rand.New(rand.NewSource(2))
	d := &drawer{Rand: r}
	for range 4000 {
		s := drawSound(r)
		p := drawPacket(r, s)
		if e := wire.Right(s, p); e != api.OK {
			t.Fatalf("%d: %s of %s", e, short(p), short(s))
		}
		checkBuild(t, "Build", s, p, modelBuild(s, p), api.OK)
		for range 4 {
			at, a, header := drawRef(r, s), d.value(128), drawHeader(r, s)
			if got, want := wire.Get(s, p, at), modelOf(s, p).values[at]; got != want {
				t.Errorf("Get %v: %v; want %v", at, got, want)
			}
			checkPacket(t, "Set", wire.Set(s, p, at, a), modelSet(s, p, at, a))
			checkPacket(t, "Add", wire.Add(s, p, header), modelAdd(s, p, header))
			checkPacket(t, "Remove", wire.Remove(s, p, header), modelRemove(s, p, header))
			checkPacket(t, "Sum", wire.Sum(s, p, at), modelSum(s, p, at))
			if t.Failed() {
				t.Fatalf("%v, %v, %q of %s, %s", at, a, header, short(p), short(s))
			}
		}
	}
}

// TestDrawnHeaders: one header's bytes are the model's, and the other way round. P10.4
func TestDrawnHeaders(t *testing.T) {
	r := rand.New(rand.NewSource(3))
	for range 4000 {
		s := drawSound(r)
		for _, f := range drawPacket(r, s).Heads {
			h, _ := modelHeader(s, f.Name)
			want := modelBytes(h, f.Values)
			if b, e := wire.Bytes(s, f); b != want || e != api.OK {
				t.Fatalf("Bytes: %x %d; want %x: %s", b, e, want, short(f))
			}
			b := drawBytes(r, len(want))
			values, _ := modelValues(h, b)
			if got, e := wire.From(s, f.Name, b); got.Name != f.Name || !slices.Equal(got.Values, values) || e != api.OK {
				t.Fatalf("From: %s %d; want %v", short(got), e, values)
			}
			for _, size := range []int{0, len(b) - 1, len(b) + 1} {
				if got, e := wire.From(s, f.Name, drawBytes(r, size)); !same(got, api.Filled{}) || e != api.ErrPacket {
					t.Fatalf("From of %d bytes: %s %d", size, short(got), e)
				}
			}
		}
	}
}

// TestTurnedPackets: a packet or header that something was changed of is right just if the model says so; of one that is not, all calls answer nothing. P10.2 to P10.4
func TestTurnedPackets(t *testing.T) {
	r := rand.New(rand.NewSource(4))
	right, wrong := 0, 0
	for range 8000 {
		s := drawSound(r)
		if r.Intn(2) == 0 {
			s = whole()
		}
		p := drawPacket(r, s)
		turn(r, &p)
		if modelRight(s, p) {
			right++
			checkRight(t, s, p)
		} else {
			wrong++
			checkNone(t, r, s, p, api.ErrPacket)
		}
		for _, f := range p.Heads {
			want := ""
			wantE := api.ErrPacket
			if h, ok := modelHeader(s, f.Name); ok && modelRight(s, api.Packet{Heads: []api.Filled{f}, Meta: make([]api.Bits, len(s.Meta))}) {
				want, wantE = modelBytes(h, f.Values), api.OK
			}
			if b, e := wire.Bytes(s, f); b != want || e != wantE {
				t.Errorf("Bytes of %s: %x %d; want %x %d", short(f), b, e, want, wantE)
			}
		}
		if t.Failed() {
			t.Fatalf("%s of %s", short(p), short(s))
		}
	}
	if right < 1000 || wrong < 1000 {
		t.Errorf("%d right, %d wrong", right, wrong)
	}
}

// TestTurnedSchemas: a schema that is not sound is refused by every call, ahead of what else is wrong. P10.1 to P10.4
func TestTurnedSchemas(t *testing.T) {
	r := rand.New(rand.NewSource(5))
	unsound := 0
	for range 8000 {
		s := drawSound(r)
		if r.Intn(2) == 0 {
			s = whole()
		}
		p := drawPacket(r, s)
		if r.Intn(2) == 0 {
			turn(r, &p)
		}
		turn(r, &s)
		if e, _ := schema.Check(s); e == api.OK {
			if modelRight(s, p) {
				checkRight(t, s, p)
			} else {
				checkNone(t, r, s, p, api.ErrPacket)
			}
			continue
		}
		unsound++
		checkNone(t, r, s, p, api.ErrSchema)
		checkParse(t, "not sound", s, nil, smallBytes, api.Packet{}, api.ErrSchema)
		for _, f := range append(p.Heads, api.Filled{}) {
			if b, e := wire.Bytes(s, f); b != "" || e != api.ErrSchema {
				t.Errorf("Bytes: %x %d", b, e)
			}
			if got, e := wire.From(s, f.Name, "\x01\x02\x03"); !same(got, api.Filled{}) || e != api.ErrSchema {
				t.Errorf("From: %s %d", short(got), e)
			}
		}
		if t.Failed() {
			t.Fatalf("%s of %s", short(p), short(s))
		}
	}
	if unsound < 2000 {
		t.Errorf("%d not sound", unsound)
	}
}

// checkRight: a right packet is told to be.
func checkRight(t *testing.T, s api.Schema, p api.Packet) {
	t.Helper()
	if e := wire.Right(s, p); e != api.OK {
		t.Errorf("Right: %d", e)
	}
	checkBuild(t, "right", s, p, modelBuild(s, p), api.OK)
	checkPacket(t, "Add of nothing", wire.Add(s, p, "nothing"), p)
}

// checkNone: of what has an error no call answers anything.
func checkNone(t *testing.T, r *rand.Rand, s api.Schema, p api.Packet, want api.Errno) {
	t.Helper()
	if e := wire.Right(s, p); e != want {
		t.Errorf("Right: %d; want %d", e, want)
	}
	checkBuild(t, "not right", s, p, "", want)
	for _, at := range []api.Ref{drawRef(r, s), ref("meta", "port"), ref("eth", "dst"), ref("ip", "check")} {
		if a := wire.Get(s, p, at); a != (api.Bits{}) {
			t.Errorf("Get %v: %v", at, a)
		}
		checkPacket(t, "Set", wire.Set(s, p, at, n(1)), api.Packet{})
		checkPacket(t, "Sum", wire.Sum(s, p, at), api.Packet{})
	}
	for _, header := range []string{drawHeader(r, s), "eth", "ip", "x"} {
		checkPacket(t, "Add", wire.Add(s, p, header), api.Packet{})
		checkPacket(t, "Remove", wire.Remove(s, p, header), api.Packet{})
	}
}
