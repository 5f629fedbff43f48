package wire

import (
	"slices"
	"strings"

	"turnout/api"
	"turnout/schema"
	"turnout/value"
)

const (
	// metaHead is the Head of a reference to the metadata.
	metaHead = "meta"
	// sumWidth is the width of a field that can hold a sum of ones.
	sumWidth = 16
)

// parts are those of a packet that is right for a sound schema. Its headers stand in the places that they have in the schema, so that they are in order whatever comes and goes.
type parts struct {
	schema api.Schema
	heads  [][]api.Bits // of each header of the schema its values; nil: it is not there
	meta   []api.Bits
	rest   string
}

// untaken are the parts of a packet of which no header is taken yet.
func untaken(s api.Schema, in []api.Bits, packet string) *parts {
	k := &parts{schema: s, heads: make([][]api.Bits, len(s.Headers)), rest: packet}
	for i, f := range s.Meta {
		var a api.Bits
		if i < len(in) {
			a = value.Cut(in[i], f.Width)
		}
		k.meta = append(k.meta, a)
	}
	return k
}

// laidOut are the parts of a packet, in new memory but for the rest: ErrSchema, ErrPacket, if it has none.
func laidOut(s api.Schema, p api.Packet) (*parts, api.Errno) {
	if !isSound(s) {
		return nil, api.ErrSchema
	}
	k := &parts{schema: s, heads: make([][]api.Bits, len(s.Headers)), rest: p.Rest}
	first := 0 // of the headers that may still come
	for _, f := range p.Heads {
		at := headerAt(s, f.Name)
		if at < first || !fit(f.Values, s.Headers[at].Fields) {
			return nil, api.ErrPacket
		}
		k.heads[at] = copied(f.Values)
		first = at + 1
	}
	if !fit(p.Meta, s.Meta) {
		return nil, api.ErrPacket
	}
	k.meta = copied(p.Meta)
	return k, api.OK
}

// changed is a packet behind a change of its parts; the zero one, if it has none.
func changed(s api.Schema, p api.Packet, change func(*parts)) api.Packet {
	k, e := laidOut(s, p)
	if e != api.OK {
		return api.Packet{}
	}
	change(k)
	return k.packet()
}

// packet is the packet whose parts these are. Its lists are theirs: it is asked for once, at the end.
func (k *parts) packet() api.Packet {
	p := api.Packet{Meta: k.meta, Rest: strings.Clone(k.rest)}
	for at, values := range k.heads {
		if values != nil {
			name := strings.Clone(k.schema.Headers[at].Name)
			p.Heads = append(p.Heads, api.Filled{Name: name, Values: values})
		}
	}
	return p
}

// field is where the value of a field stands; nil, if the reference names none, or its header is not there.
func (k *parts) field(r api.Ref) *api.Bits {
	fields, values := k.schema.Meta, k.meta
	if r.Head != metaHead {
		at := headerAt(k.schema, r.Head)
		if at < 0 || k.heads[at] == nil {
			return nil
		}
		fields, values = k.schema.Headers[at].Fields, k.heads[at]
	}
	at := slices.IndexFunc(fields, func(f api.Field) bool { return f.Name == r.Name })
	if at < 0 {
		return nil
	}
	return &values[at]
}

// value is the value of a field; 0, if there is none.
func (k *parts) value(r api.Ref) api.Bits {
	if field := k.field(r); field != nil {
		return *field
	}
	return api.Bits{}
}

// isSound tells whether a schema is.
func isSound(s api.Schema) bool {
	e, _ := schema.Check(s)
	return e == api.OK
}

// headerAt is the place of the header of a name; below 0: there is none.
func headerAt(s api.Schema, name string) int {
	return slices.IndexFunc(s.Headers, func(h api.Header) bool { return h.Name == name })
}

// fit tells whether there is a value for each field, and each fits.
func fit(values []api.Bits, fields []api.Field) bool {
	return slices.EqualFunc(values, fields, func(a api.Bits, f api.Field) bool { return value.Fits(a, f.Width) })
}

// copied is a list in new memory; nil, if it is empty.
func copied(list []api.Bits) []api.Bits {
	return append([]api.Bits(nil), list...)
}
