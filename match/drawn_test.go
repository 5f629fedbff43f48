package match_test

import (
	"math"
	"math/rand"
	"reflect"
	"slices"
	"strconv"

	"turnout/api"
)

// A drawer draws sound schemas, and entries of their tables.
type drawer struct {
	*rand.Rand
	s api.Schema
}

// drawSound is a sound schema that has tables.
func drawSound(r *rand.Rand) api.Schema {
	d := &drawer{Rand: r}
	d.fields()
	for i := range 1 + d.Intn(4) {
		a := api.Action{Name: d.name(i)}
		for j := range max(0, d.Intn(5)-1) {
			a.Params = append(a.Params, api.Field{Name: d.name(j), Width: d.width()})
		}
		d.s.Actions = append(d.s.Actions, a)
	}
	for i := range 1 + d.Intn(3) {
		d.table(d.name(i))
	}
	return d.s
}

// name is one of few names, so that things of unlike kinds are called alike.
func (d *drawer) name(i int) string { return string(rune('a'+d.Intn(3))) + strconv.Itoa(i) }

func (d *drawer) width() int {
	return []int{1, 1, 2, 2, 3, 4, 7, 8, 8, 9, 12, 16, 17, 24, 31, 32, 33, 63, 64, 65, 127, 128}[d.Intn(22)]
}

func (d *drawer) value(width int) api.Bits {
	a := api.Bits{Hi: d.Uint64(), Lo: d.Uint64()}
	switch d.Intn(5) {
	case 0:
		a = api.Bits{}
	case 1:
		a = most
	case 2:
		a = n(uint64(d.Intn(4)))
	}
	return modelCut(a, width)
}

func (d *drawer) fields() {
	for i := range d.Intn(3) {
		h := api.Header{Name: d.name(i)}
		sum := 0
		for j := range 1 + d.Intn(3) {
			h.Fields = append(h.Fields, api.Field{Name: d.name(j), Width: d.width()})
			sum += h.Fields[j].Width
		}
		if sum%8 != 0 {
			h.Fields = append(h.Fields, api.Field{Name: "rest", Width: 8 - sum%8})
		}
		d.s.Headers = append(d.s.Headers, h)
	}
	for i := range 1 + d.Intn(4) {
		d.s.Meta = append(d.s.Meta, api.Field{Name: d.name(i), Width: d.width()})
	}
}

// table draws one, with parts of all kinds that may stand together.
func (d *drawer) table(name string) {
	var refs []api.Ref
	for _, h := range append(slices.Clone(d.s.Headers), api.Header{Name: "meta", Fields: d.s.Meta}) {
		for _, f := range h.Fields {
			refs = append(refs, ref(h.Name, f.Name))
		}
	}
	x := api.Table{Name: name, Size: 1 + d.Intn(4096), Fixed: d.Intn(2) == 0}
	together := [][]int{{1}, {1, 1, 2}, {1, 3, 4}}[d.Intn(3)]
	for range []int{1, 1, 2, 2, 3, 4, 8}[d.Intn(7)] {
		k := d.Intn(len(together))
		x.Keys = append(x.Keys, api.Key{Ref: refs[d.Intn(len(refs))], Kind: together[k]})
		if together[k] == api.Prefix {
			together = together[:k]
		}
	}
	for _, a := range d.Perm(len(d.s.Actions))[:1+d.Intn(len(d.s.Actions))] {
		x.Actions = append(x.Actions, d.s.Actions[a].Name)
	}
	x.Default = d.call(x)
	d.s.Tables = append(d.s.Tables, x)
}

// call is one that a table can have.
func (d *drawer) call(t api.Table) api.Call {
	c := api.Call{Action: t.Actions[d.Intn(len(t.Actions))]}
	for _, p := range modelAction(d.s, c.Action).Params {
		c.Args = append(c.Args, d.value(p.Width))
	}
	return c
}

// match is one that may be.
func (d *drawer) match(kind, width int) api.Match {
	a := d.value(width)
	switch kind {
	case api.Prefix:
		bits := d.Intn(width + 1)
		if d.Intn(3) == 0 {
			bits = []int{0, width}[d.Intn(2)]
		}
		text := bitsOf(a, width)[:bits]
		m := api.Match{Len: bits}
		for i, b := range text {
			if at := width - 1 - i; b == '1' && at >= 64 {
				m.Value.Hi |= 1 << (at - 64)
			} else if b == '1' {
				m.Value.Lo |= 1 << at
			}
		}
		return m
	case api.Ternary:
		mask := d.value(width)
		return api.Match{Value: api.Bits{Hi: a.Hi & mask.Hi, Lo: a.Lo & mask.Lo}, Mask: mask}
	case api.Range:
		b := d.value(width)
		if !upTo(a, b) {
			a, b = b, a
		}
		return api.Match{Value: a, Mask: b}
	}
	return api.Match{Value: a}
}

// drawEntry is a right entry of a table.
func drawEntry(r *rand.Rand, s api.Schema, table string) api.Entry {
	d := &drawer{Rand: r, s: s}
	t, widths := modelTable(s, table)
	var e api.Entry
	for i, k := range t.Keys {
		e.Match = append(e.Match, d.match(k.Kind, widths[i]))
	}
	if modelRanked(t) {
		e.Priority = []int{1, 2, 3, 255, 256, 1 + r.Intn(api.MaxPriority), api.MaxPriority - 1, api.MaxPriority}[r.Intn(8)]
	}
	e.Call = d.call(t)
	return e
}

// drawList are entries of a table: some are the same one as others, or nearly, and some are not right.
func drawList(r *rand.Rand, s api.Schema, table string) []api.Entry {
	var list []api.Entry
	for i := range r.Intn(9) {
		e := drawEntry(r, s, table)
		if i > 0 && r.Intn(3) == 0 {
			other := deepCopy(list[r.Intn(i)])
			at := r.Intn(len(e.Match))
			if len(other.Match) == len(e.Match) && r.Intn(2) == 0 {
				other.Match[at] = e.Match[at]
			}
			e = other
		}
		if r.Intn(12) == 0 {
			turn(r, &e)
		}
		list = append(list, e)
	}
	return list
}

// drawKey is a key of a table: most are hit by one of a list, some nearly are keys.
func drawKey(r *rand.Rand, s api.Schema, table string, l []api.Entry) []api.Bits {
	d := &drawer{Rand: r}
	t, widths := modelTable(s, table)
	var key []api.Bits
	for i, width := range widths {
		a := d.value(width)
		if len(l) > 0 && r.Intn(8) > 0 {
			a = inside(d, t.Keys[i].Kind, width, l[0], i)
		}
		key = append(key, a)
	}
	if r.Intn(12) == 0 {
		turn(r, &key)
	}
	return key
}

// inside is a value that an entry's match hits, if it is one that may be.
func inside(d *drawer, kind, width int, e api.Entry, part int) api.Bits {
	a := d.value(width)
	if part >= len(e.Match) || !modelMay(kind, width, e.Match[part]) {
		return a
	}
	m := e.Match[part]
	switch kind {
	case api.Range:
		return []api.Bits{m.Value, m.Mask}[d.Intn(2)]
	case api.Ternary:
		return api.Bits{Hi: a.Hi&^m.Mask.Hi | m.Value.Hi, Lo: a.Lo&^m.Mask.Lo | m.Value.Lo}
	case api.Prefix:
		ones := modelCut(most, width-m.Len)
		return api.Bits{Hi: a.Hi&ones.Hi | m.Value.Hi, Lo: a.Lo&ones.Lo | m.Value.Lo}
	}
	return m.Value
}

// turn changes something, anywhere in a thing.
func turn[T any](r *rand.Rand, thing *T) {
	var places []reflect.Value
	texts := []string{"", "meta", "accept", "x", "X"}
	var gather func(reflect.Value)
	gather = func(v reflect.Value) {
		switch v.Kind() {
		case reflect.Struct:
			if v.Type() == reflect.TypeFor[api.Bits]() {
				places = append(places, v)
				return
			}
			for i := range v.NumField() {
				gather(v.Field(i))
			}
		case reflect.Slice:
			places = append(places, v)
			for i := range v.Len() {
				gather(v.Index(i))
			}
		case reflect.String:
			texts = append(texts, v.String())
			places = append(places, v)
		default:
			places = append(places, v)
		}
	}
	gather(reflect.ValueOf(thing).Elem())
	change(r, places[r.Intn(len(places))], texts)
}

func change(r *rand.Rand, v reflect.Value, texts []string) {
	switch v.Kind() {
	case reflect.Struct:
		list := []api.Bits{{}, n(1), n(2), n(3), n(7), n(8), n(255), n(256), n(511), n(512), n(1<<16 - 1), n(1 << 16), n(1 << 32), n(1 << 48), {Hi: 1}, {Hi: 1 << 63}, most}
		v.Set(reflect.ValueOf(list[r.Intn(len(list))]))
	case reflect.Slice:
		changeList(r, v)
	case reflect.String:
		v.SetString(texts[r.Intn(len(texts))])
	case reflect.Int:
		list := []int64{-1, 0, 1, 2, 3, 4, 5, 7, 8, 9, 16, 17, 32, 64, 65, 127, 128, 129, api.MaxPriority, api.MaxPriority + 1, math.MaxInt64, math.MinInt64}
		v.SetInt(list[r.Intn(len(list))])
	case reflect.Bool:
		v.SetBool(!v.Bool())
	}
}

func changeList(r *rand.Rand, v reflect.Value) {
	size := v.Len()
	list := deep(v)
	switch k := r.Intn(6); {
	case k == 0:
		list = reflect.MakeSlice(v.Type(), 0, 3)
	case k == 1:
		list = reflect.Append(list, reflect.Zero(v.Type().Elem()))
	case size == 0:
	case k == 2:
		i := r.Intn(size)
		list = reflect.AppendSlice(list.Slice(0, i), list.Slice(i+1, size))
	case k == 3:
		list = reflect.Append(list, deep(v.Index(r.Intn(size))))
	case k == 4:
		reflect.Swapper(list.Interface())(r.Intn(size), r.Intn(size))
	default:
		list = list.Slice(0, r.Intn(size+1))
	}
	v.Set(list)
}
