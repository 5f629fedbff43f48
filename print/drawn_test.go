package print_test

import (
	"fmt"
	"math"
	"math/rand"
	"reflect"
	"slices"
	"strconv"
	"strings"
	"testing"

	"turnout/api"
	"turnout/print"
	"turnout/schema"
)

// A drawer draws sound schemas.
type drawer struct {
	*rand.Rand
	s      api.Schema
	stages int // of the control, that may still be drawn
}

// drawSound is a sound schema, drawn part by part so that it is one.
func drawSound(r *rand.Rand) api.Schema {
	d := &drawer{Rand: r, stages: 1 + r.Intn(30)}
	d.headers()
	for i := range d.Intn(4) {
		d.s.Meta = append(d.s.Meta, api.Field{Name: d.name(i), Width: d.width()})
	}
	d.states()
	d.actions()
	d.tables()
	var left []string
	for _, t := range d.s.Tables {
		left = append(left, t.Name)
	}
	d.Shuffle(len(left), func(i, j int) { left[i], left[j] = left[j], left[i] })
	d.s.Control = d.control(&left, 1)
	return d.s
}

// name is one of few names, so that things of unlike kinds are called alike; some are as long as may be.
func (d *drawer) name(i int) string {
	name := string(rune('a'+d.Intn(3))) + strconv.Itoa(i)
	if d.Intn(20) == 0 {
		name += strings.Repeat("_", api.MaxName-len(name))
	}
	return name
}

func (d *drawer) width() int { return []int{1, 3, 8, 9, 16, 16, 32, 64, 65, 128}[d.Intn(10)] }

func (d *drawer) value(width int) api.Bits {
	a := api.Bits{Hi: d.Uint64(), Lo: d.Uint64()}
	switch d.Intn(4) {
	case 0:
		a = api.Bits{}
	case 1:
		a = api.Bits{Hi: math.MaxUint64, Lo: math.MaxUint64}
	}
	for range api.MaxWidth - width {
		a = api.Bits{Hi: a.Hi >> 1, Lo: a.Lo>>1 | a.Hi<<63}
	}
	return a
}

func (d *drawer) headers() {
	for i := range d.Intn(4) {
		h := api.Header{Name: d.name(i)}
		sum := 0
		for j := range 1 + d.Intn(4) {
			h.Fields = append(h.Fields, api.Field{Name: d.name(j), Width: d.width()})
			sum += h.Fields[j].Width
		}
		if sum%8 != 0 {
			h.Fields = append(h.Fields, api.Field{Name: "rest", Width: 8 - sum%8})
		}
		d.s.Headers = append(d.s.Headers, h)
	}
}

// refs are references to all fields, of a width if it is not 0.
func (d *drawer) refs(width int) []api.Ref {
	var list []api.Ref
	for _, h := range append(slices.Clone(d.s.Headers), api.Header{Name: "meta", Fields: d.s.Meta}) {
		for _, f := range h.Fields {
			if width == 0 || f.Width == width {
				list = append(list, ref(h.Name, f.Name))
			}
		}
	}
	return list
}

func (d *drawer) ref() (api.Ref, int) {
	list := d.refs(0)
	r := list[d.Intn(len(list))]
	return r, widthOf(d.s, r)
}

func (d *drawer) header() string { return d.s.Headers[d.Intn(len(d.s.Headers))].Name }

// states: one leads to others that were drawn earlier alone; then they are mixed.
func (d *drawer) states() {
	ends := []string{"accept", "reject"}
	for i := range d.Intn(5) {
		if len(d.s.Headers) == 0 {
			return
		}
		x := api.State{Name: d.name(i), Header: d.header(), Next: ends[d.Intn(len(ends))]}
		if d.Intn(3) > 0 {
			on, width := d.ref()
			x.On = on
			for range d.Intn(4) {
				c := api.Case{Mask: d.value(width), Next: ends[d.Intn(len(ends))]}
				v := d.value(width)
				c.Value = api.Bits{Hi: v.Hi & c.Mask.Hi, Lo: v.Lo & c.Mask.Lo}
				if !slices.ContainsFunc(x.Cases, func(y api.Case) bool { return y.Value == c.Value && y.Mask == c.Mask }) {
					x.Cases = append(x.Cases, c)
				}
			}
		}
		ends = append(ends, x.Name)
		d.s.States = append(d.s.States, x)
	}
	l := d.s.States
	d.Shuffle(len(l), func(i, j int) { l[i], l[j] = l[j], l[i] })
}

func (d *drawer) actions() {
	for i := range d.Intn(5) {
		a := api.Action{Name: d.name(i)}
		for j := range d.Intn(4) {
			a.Params = append(a.Params, api.Field{Name: d.name(j), Width: d.width()})
		}
		for range d.Intn(5) {
			a.Steps = append(a.Steps, d.step(a))
		}
		d.s.Actions = append(d.s.Actions, a)
	}
}

// operand is one that goes into a field of a width.
func (d *drawer) operand(width int, params []api.Field) api.Operand {
	list := d.refs(width)
	for _, p := range params {
		if p.Width == width {
			list = append(list, ref("", p.Name))
		}
	}
	if len(list) == 0 || d.Intn(3) == 0 {
		return api.Operand{Const: d.value(width)}
	}
	return api.Operand{Ref: list[d.Intn(len(list))]}
}

func (d *drawer) step(a api.Action) api.Step {
	if len(d.s.Headers) > 0 {
		var sums []api.Ref
		for _, r := range d.refs(16) {
			if r.Head != "meta" {
				sums = append(sums, r)
			}
		}
		switch d.Intn(6) {
		case 0:
			return api.Step{Kind: api.StepAdd + d.Intn(2), To: ref(d.header(), "")}
		case 1:
			if len(sums) > 0 {
				return api.Step{Kind: api.StepSum, To: sums[d.Intn(len(sums))]}
			}
		case 2, 3, 4:
			to, width := d.ref()
			step := set(to, d.Intn(6), d.operand(width, a.Params), api.Operand{})
			if step.Op != api.OpCopy {
				step.B = d.operand(width, a.Params)
			}
			return step
		}
	}
	return api.Step{Kind: []int{api.StepDrop, api.StepAgain}[d.Intn(2)]}
}

func (d *drawer) tables() {
	if len(d.refs(0)) == 0 || len(d.s.Actions) == 0 {
		return
	}
	for i := range d.Intn(6) {
		x := api.Table{Name: d.name(i), Size: 1 + d.Intn(4096), Fixed: d.Intn(2) == 0}
		kinds := [][]int{{1}, {1, 1, 2}, {1, 3, 4}}[d.Intn(3)]
		for range 1 + d.Intn(4) {
			r, _ := d.ref()
			k := d.Intn(len(kinds))
			x.Keys = append(x.Keys, api.Key{Ref: r, Kind: kinds[k]})
			if kinds[k] == api.Prefix {
				kinds = kinds[:k]
			}
		}
		for _, a := range d.Perm(len(d.s.Actions))[:1+d.Intn(len(d.s.Actions))] {
			x.Actions = append(x.Actions, d.s.Actions[a].Name)
		}
		x.Default.Action = x.Actions[d.Intn(len(x.Actions))]
		for _, a := range d.s.Actions {
			for _, p := range a.Params {
				if a.Name == x.Default.Action {
					x.Default.Args = append(x.Default.Args, d.value(p.Width))
				}
			}
		}
		d.s.Tables = append(d.s.Tables, x)
	}
}

func (d *drawer) control(tables *[]string, depth int) []api.Stage {
	var list []api.Stage
	for range d.Intn(4) {
		if d.stages == 0 {
			break
		}
		d.stages--
		var x api.Stage
		switch k := d.Intn(5); {
		case k < 2 && len(*tables) > 0:
			x = apply((*tables)[0])
			*tables = (*tables)[1:]
		case k < 4 && len(d.refs(0)) > 0:
			x = api.Stage{Kind: api.StageIf, Test: d.test()}
		default:
			list = append(list, exit())
			continue
		}
		if depth < 8 {
			x.Then, x.Else = d.control(tables, depth+1), d.control(tables, depth+1)
		}
		list = append(list, x)
	}
	return list
}

func (d *drawer) test() api.Test {
	if len(d.s.Headers) > 0 && d.Intn(3) == 0 {
		return api.Test{Kind: api.TestValid, A: at(d.header(), "")}
	}
	r, width := d.ref()
	x := api.Test{Kind: api.TestEq + d.Intn(4), A: api.Operand{Ref: r}, B: d.operand(width, nil)}
	if d.Intn(2) == 0 {
		x.A, x.B = x.B, x.A
	}
	return x
}

// turn changes something, anywhere in a schema.
func turn(r *rand.Rand, s *api.Schema) {
	var places []reflect.Value
	var texts []string
	var gather func(reflect.Value)
	gather = func(v reflect.Value) {
		switch v.Kind() {
		case reflect.Struct:
			if v.Type() == reflect.TypeFor[api.Bits]() {
				places = append(places, v)
				return
			}
			for i := range v.NumField() {
				gather(v.Field(i))
			}
		case reflect.Slice:
			places = append(places, v)
			for i := range v.Len() {
				gather(v.Index(i))
			}
		case reflect.String:
			texts = append(texts, v.String())
			places = append(places, v)
		default:
			places = append(places, v)
		}
	}
	gather(reflect.ValueOf(s).Elem())
	change(r, places[r.Intn(len(places))], texts)
}

func change(r *rand.Rand, v reflect.Value, texts []string) {
	switch v.Kind() {
	case reflect.Struct:
		list := []api.Bits{{}, n(1), n(7), n(8), n(255), n(256), n(511), n(512), n(1<<16 - 1), n(1 << 16), n(1 << 32), n(1 << 48), {Hi: 1}, {Hi: 1 << 63}, {Hi: math.MaxUint64, Lo: math.MaxUint64}}
		v.Set(reflect.ValueOf(list[r.Intn(len(list))]))
	case reflect.Slice:
		changeList(r, v)
	case reflect.String:
		texts = append(texts, "", "", "meta", "meta", "accept", "x", "X")
		v.SetString(texts[r.Intn(len(texts))])
	case reflect.Int:
		list := []int64{-1, 0, 0, 1, 1, 2, 2, 3, 3, 4, 5, 6, 7, 8, 9, 15, 16, 17, 32, 48, 127, 128, 129, 4096, 4097, math.MaxInt64, math.MinInt64}
		v.SetInt(list[r.Intn(len(list))])
	case reflect.Bool:
		v.SetBool(!v.Bool())
	}
}

func changeList(r *rand.Rand, v reflect.Value) {
	size := v.Len()
	list := reflect.MakeSlice(v.Type(), 0, 0)
	for i := range size {
		list = reflect.Append(list, deep(v.Index(i)))
	}
	switch k := r.Intn(7); {
	case k == 0:
		list = reflect.MakeSlice(v.Type(), 0, 3)
	case k == 1:
		list = reflect.Append(list, reflect.Zero(v.Type().Elem()))
	case size == 0:
	case k == 2:
		i := r.Intn(size)
		list = reflect.AppendSlice(list.Slice(0, i), list.Slice(i+1, size))
	case k == 3:
		list = reflect.Append(list, deep(v.Index(r.Intn(size))))
	case k == 4:
		reflect.Swapper(list.Interface())(r.Intn(size), r.Intn(size))
	case k == 5:
		for i := range []int{1, 8, 9, 32, 33, 64, 65, 128, 129}[r.Intn(9)] {
			list = reflect.Append(list, deep(v.Index(i%size)))
		}
	default:
		list = list.Slice(0, r.Intn(size+1))
	}
	v.Set(list)
}

// deep is a copy in new memory, by no call of the package.
func deep(v reflect.Value) reflect.Value {
	out := reflect.New(v.Type()).Elem()
	switch v.Kind() {
	case reflect.Struct:
		for i := range v.NumField() {
			out.Field(i).Set(deep(v.Field(i)))
		}
	case reflect.Slice:
		if !v.IsNil() {
			out.Set(reflect.MakeSlice(v.Type(), v.Len(), v.Len()))
		}
		for i := range v.Len() {
			out.Index(i).Set(deep(v.Index(i)))
		}
	default:
		out.Set(v)
	}
	return out
}

func deepCopy(s api.Schema) api.Schema { return deep(reflect.ValueOf(s)).Interface().(api.Schema) }

// short is a schema's text, cut.
func short(s api.Schema) string {
	text := fmt.Sprintf("%+v", s)
	return text[:min(len(text), 3000)]
}

// TestDrawn: a sound schema's text, and that of each thing, is the model's. P9.3, P9.4
func TestDrawn(t *testing.T) {
	r := rand.New(rand.NewSource(3))
	for range 4000 {
		s := drawSound(r)
		text, e := print.Schema(s)
		if want := modelSchema(s); text != want || e != api.OK {
			t.Fatalf("%d\n%s\nwant\n%s", e, text, want)
		}
		together := ""
		for _, x := range modelThings(s, nil) {
			one, e := print.Thing(s, x.name)
			if want := laid(x.words); one != want || e != api.OK {
				t.Fatalf("%q: %d\n%s\nwant\n%s", x.name, e, one, want)
			}
			together += one
		}
		if together != text {
			t.Fatalf("the things together are\n%s\nand the schema is\n%s", together, text)
		}
	}
}

// TestReadAgain: what is read of a schema's text is the schema. P9.5
func TestReadAgain(t *testing.T) {
	r := rand.New(rand.NewSource(4))
	for range 4000 {
		s := drawSound(r)
		text, _ := print.Schema(s)
		if again := read(t, text); !schema.Same(again, s) {
			t.Fatalf("%s\nis read of\n%s\nwant %s", short(again), text, short(s))
		}
	}
}

// TestOneText: of all texts that say a schema, it is one. P9.5
func TestOneText(t *testing.T) {
	r := rand.New(rand.NewSource(5))
	for range 1500 {
		s := drawSound(r)
		want := modelSchema(s)
		for range 2 {
			other := spread(r, s)
			if len(other) > api.MaxText {
				continue
			}
			if text, e := print.Schema(read(t, other)); text != want || e != api.OK {
				t.Fatalf("%d\n%s\nof\n%s\nwant\n%s", e, text, other, want)
			}
		}
	}
}

// TestTurned: what isn't sound is refused, by both calls; and two sound schemas have one text just if they are the same. P9.3 to P9.5
func TestTurned(t *testing.T) {
	r := rand.New(rand.NewSource(6))
	var unsound, alike, unlike int
	for i := range 15000 {
		s := drawSound(r)
		if i%3 > 0 {
			s = sample()
		}
		before := deepCopy(s)
		turn(r, &s)
		if e, _ := schema.Check(s); e != api.OK {
			unsound++
			refused(t, "turned", s, "meta", api.ErrSchema, api.ErrSchema)
			refused(t, "turned", s, "nothing", api.ErrSchema, api.ErrSchema)
			continue
		}
		one, e := print.Schema(before)
		other, e2 := print.Schema(s)
		if e != api.OK || e2 != api.OK {
			t.Fatalf("%d, %d: %s", e, e2, short(s))
		}
		same := schema.Same(before, s)
		if same != (one == other) {
			t.Fatalf("the same: %t\n%s\n%s", same, one, other)
		}
		if same {
			alike++
		} else {
			unlike++
		}
	}
	if unsound < 1000 || alike < 1000 || unlike < 1000 {
		t.Errorf("%d not sound, %d alike, %d unlike", unsound, alike, unlike)
	}
}
