package pipe_test

import (
	"math/rand"
	"slices"
	"strconv"
	"testing"

	"turnout/api"
	"turnout/schema"
)

// A drawer draws sound schemas, and what goes through them.
type drawer struct {
	*rand.Rand
	s      api.Schema
	stages int  // of the control, that may still be drawn
	counts bool // each action counts in the metadata, and each table is asked for that, too: so passes are unlike
}

// drawSound is a sound schema, drawn part by part so that it is one.
func drawSound(r *rand.Rand) api.Schema {
	d := &drawer{Rand: r, stages: 1 + r.Intn(20), counts: r.Intn(3) > 0}
	d.headers()
	d.s.Meta = d.fields(r.Intn(4))
	if d.counts {
		d.s.Meta = append(d.s.Meta, api.Field{Name: "count", Width: 8})
	}
	d.states()
	d.actions()
	d.tables()
	var left []string
	for _, t := range d.s.Tables {
		left = append(left, t.Name)
	}
	d.Shuffle(len(left), func(i, j int) { left[i], left[j] = left[j], left[i] })
	d.s.Control = d.control(&left, 1)
	return d.s
}

// name is one of few names, so that things of unlike kinds are called alike.
func (d *drawer) name(i int) string { return string(rune('a'+d.Intn(3))) + strconv.Itoa(i) }

func (d *drawer) width() int { return []int{1, 3, 8, 8, 8, 9, 16, 16, 32, 64, 65, 128}[d.Intn(12)] }

// cut leaves so many of a value's lowest bits.
func cut(a api.Bits, width int) api.Bits {
	if width <= 64 {
		return api.Bits{Lo: a.Lo << (64 - width) >> (64 - width)}
	}
	return api.Bits{Hi: a.Hi << (128 - width) >> (128 - width), Lo: a.Lo}
}

func (d *drawer) value(width int) api.Bits {
	list := []api.Bits{{}, {}, n(1), most, {Hi: d.Uint64(), Lo: d.Uint64()}}
	return cut(list[d.Intn(len(list))], width)
}

// values are one for each field.
func (d *drawer) values(fields []api.Field) []api.Bits {
	var list []api.Bits
	for _, f := range fields {
		list = append(list, d.value(f.Width))
	}
	return list
}

func (d *drawer) fields(count int) []api.Field {
	var list []api.Field
	for i := range count {
		list = append(list, api.Field{Name: d.name(i), Width: d.width()})
	}
	return list
}

func (d *drawer) headers() {
	for i := range d.Intn(5) {
		h := api.Header{Name: d.name(i), Fields: d.fields(1 + d.Intn(4))}
		sum := 0
		for _, f := range h.Fields {
			sum += f.Width
		}
		if sum%8 != 0 {
			h.Fields = append(h.Fields, api.Field{Name: "rest", Width: 8 - sum%8})
		}
		d.s.Headers = append(d.s.Headers, h)
	}
}

// refs are references to all fields, of a width if it is not 0.
func (d *drawer) refs(width int) []api.Ref {
	var list []api.Ref
	for _, h := range append(slices.Clone(d.s.Headers), api.Header{Name: "meta", Fields: d.s.Meta}) {
		for _, f := range h.Fields {
			if width == 0 || f.Width == width {
				list = append(list, ref(h.Name, f.Name))
			}
		}
	}
	return list
}

func (d *drawer) ref() (api.Ref, int) {
	list := d.refs(0)
	r := list[d.Intn(len(list))]
	return r, schema.Width(d.s, r)
}

func (d *drawer) header() string { return d.s.Headers[d.Intn(len(d.s.Headers))].Name }

// states: one leads to others that were drawn earlier alone; the last one is the schema's first.
func (d *drawer) states() {
	ends := []string{"accept", "accept", "accept", "reject"}
	if len(d.s.Headers) == 0 {
		return
	}
	for i := range d.Intn(5) {
		next := func() string { return ends[len(ends)-1-d.Intn(min(len(ends), 4))] }
		x := api.State{Name: d.name(i), Header: d.header(), Next: next()}
		if d.Intn(2) > 0 {
			on, width := d.ref()
			x.On = on
			mask := d.value(width)
			x.Cases = []api.Case{{Mask: mask, Next: next()}}
			if mask != (api.Bits{}) {
				x.Cases = append(x.Cases, api.Case{Value: mask, Mask: mask, Next: next()})
			}
		}
		ends = append(ends, x.Name)
		d.s.States = append(d.s.States, x)
	}
	slices.Reverse(d.s.States)
}

func (d *drawer) actions() {
	for i := range 1 + d.Intn(6) {
		a := api.Action{Name: d.name(i), Params: d.fields(d.Intn(4))}
		for range d.Intn(6) {
			a.Steps = append(a.Steps, d.step(a.Params))
		}
		if d.counts {
			count := ref("meta", "count")
			a.Steps = append(a.Steps, api.Step{Kind: api.StepSet, To: count, Op: api.OpAdd, A: api.Operand{Ref: count}, B: api.Operand{Const: n(1)}})
		}
		d.s.Actions = append(d.s.Actions, a)
	}
}

// operand is one that goes into a field of a width.
func (d *drawer) operand(width int, params []api.Field) api.Operand {
	list := d.refs(width)
	for _, p := range params {
		if p.Width == width {
			list = append(list, ref("", p.Name), ref("", p.Name))
		}
	}
	if len(list) == 0 || d.Intn(3) == 0 {
		return api.Operand{Const: d.value(width)}
	}
	return api.Operand{Ref: list[d.Intn(len(list))]}
}

func (d *drawer) step(params []api.Field) api.Step {
	if len(d.s.Headers) > 0 && d.Intn(3) == 0 {
		sums := slices.DeleteFunc(d.refs(16), func(r api.Ref) bool { return r.Head == "meta" })
		if len(sums) > 0 && d.Intn(2) == 0 {
			return api.Step{Kind: api.StepSum, To: sums[d.Intn(len(sums))]}
		}
		return api.Step{Kind: []int{api.StepAdd, api.StepRemove}[d.Intn(2)], To: ref(d.header(), "")}
	}
	if len(d.refs(0)) == 0 || d.Intn(5) == 0 {
		return api.Step{Kind: []int{api.StepDrop, api.StepAgain, api.StepAgain, api.StepAgain}[d.Intn(4)]}
	}
	to, width := d.ref()
	step := api.Step{Kind: api.StepSet, To: to, Op: d.Intn(6), A: d.operand(width, params)}
	if step.Op != api.OpCopy {
		step.B = d.operand(width, params)
	}
	return step
}

func (d *drawer) tables() {
	if len(d.refs(0)) == 0 {
		return
	}
	for i := range 1 + d.Intn(6) {
		x := api.Table{Name: d.name(i), Size: 1 + d.Intn(20), Fixed: d.Intn(2) == 0}
		kinds := [][]int{{api.Exact}, {api.Exact, api.Exact, api.Prefix}, {api.Exact, api.Ternary, api.Range}}[d.Intn(3)]
		for range 1 + d.Intn(4) {
			r, _ := d.ref()
			k := d.Intn(len(kinds))
			x.Keys = append(x.Keys, api.Key{Ref: r, Kind: kinds[k]})
			if kinds[k] == api.Prefix {
				kinds = kinds[:k]
			}
		}
		if d.counts {
			x.Keys = append(x.Keys, api.Key{Ref: ref("meta", "count"), Kind: api.Exact})
		}
		for _, a := range d.Perm(len(d.s.Actions))[:1+d.Intn(len(d.s.Actions))] {
			x.Actions = append(x.Actions, d.s.Actions[a].Name)
		}
		x.Default = d.call(x)
		d.s.Tables = append(d.s.Tables, x)
	}
}

// call is one that the table can have.
func (d *drawer) call(t api.Table) api.Call {
	a, _ := schema.Action(d.s, t.Actions[d.Intn(len(t.Actions))])
	return api.Call{Action: a.Name, Args: d.values(a.Params)}
}

func (d *drawer) control(tables *[]string, depth int) []api.Stage {
	var list []api.Stage
	for range d.Intn(5) {
		if d.stages == 0 {
			break
		}
		d.stages--
		var x api.Stage
		switch k := d.Intn(9); {
		case k < 5 && len(*tables) > 0:
			x = api.Stage{Kind: api.StageApply, Table: (*tables)[0]}
			*tables = (*tables)[1:]
		case k < 8 && len(d.refs(0)) > 0:
			x = api.Stage{Kind: api.StageIf, Test: d.test()}
		default:
			list = append(list, api.Stage{Kind: api.StageExit})
			continue
		}
		if depth < api.MaxDeep {
			x.Then, x.Else = d.control(tables, depth+1), d.control(tables, depth+1)
		}
		list = append(list, x)
	}
	return list
}

func (d *drawer) test() api.Test {
	if len(d.s.Headers) > 0 && d.Intn(3) == 0 {
		return api.Test{Kind: api.TestValid, A: api.Operand{Ref: ref(d.header(), "")}}
	}
	r, width := d.ref()
	x := api.Test{Kind: api.TestEq + d.Intn(4), A: api.Operand{Ref: r}, B: d.operand(width, nil)}
	if d.Intn(2) == 0 {
		x.A, x.B = x.B, x.A
	}
	return x
}

// packet is the bytes of one; in most of them there are all that the states may take.
func (d *drawer) packet() string {
	size := []int{d.Intn(20), 60, 100, 2040 + d.Intn(10)}[d.Intn(4)]
	out := make([]byte, size)
	fill := []int{0, 1, 255, -1}[d.Intn(4)]
	for i := range out {
		out[i] = byte(fill)
		if fill < 0 || i < 20 && d.Intn(3) == 0 {
			out[i] = byte(d.Intn(256))
		}
	}
	return string(out)
}

// in are values for the metadata: fewer, as many, or more, some of which do not fit.
func (d *drawer) in() []api.Bits {
	var list []api.Bits
	for range d.Intn(len(d.s.Meta) + 3) {
		list = append(list, d.value(128))
	}
	return list
}

// taken is a right packet.
func (d *drawer) taken() api.Packet {
	k := api.Packet{Meta: d.values(d.s.Meta), Rest: d.packet()}
	for _, h := range d.s.Headers {
		if d.Intn(3) > 0 {
			k.Heads = append(k.Heads, api.Filled{Name: h.Name, Values: d.values(h.Fields)})
		}
	}
	return k
}

// TestDrawnSound: a schema that is drawn so that it is sound, is it.
func TestDrawnSound(t *testing.T) {
	r := rand.New(rand.NewSource(1))
	for range 2000 {
		s := drawSound(r)
		if e, thing := schema.Check(s); e != api.OK || thing != "" {
			t.Fatalf("%d %q: %s", e, thing, short(s))
		}
	}
}
