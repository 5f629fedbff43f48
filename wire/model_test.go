package wire_test

import (
	"fmt"
	"math/big"
	"slices"
	"strconv"
	"strings"

	"turnout/api"
)

// The model: bits are texts of noughts and ones, a packet's fields stand in a map by their references.

func toBig(a api.Bits) *big.Int {
	hi := new(big.Int).SetUint64(a.Hi)
	return hi.Lsh(hi, 64).Add(hi, new(big.Int).SetUint64(a.Lo))
}

func fromBig(x *big.Int) api.Bits {
	lo := new(big.Int).And(x, toBig(n(^uint64(0))))
	return api.Bits{Hi: new(big.Int).Rsh(x, 64).Uint64(), Lo: lo.Uint64()}
}

// modelFits and modelCut go by the power of two.
func modelFits(a api.Bits, width int) bool { return toBig(a).BitLen() <= width }

func modelCut(a api.Bits, width int) api.Bits {
	power := new(big.Int).Lsh(big.NewInt(1), uint(width))
	return fromBig(power.Mod(toBig(a), power))
}

// modelBytes: the fields' bits one behind the other, eight a byte.
func modelBytes(h api.Header, values []api.Bits) string {
	text := ""
	for i, f := range h.Fields {
		text += fmt.Sprintf("%0*b", f.Width, toBig(values[i]))
	}
	var out []byte
	for eight := range slices.Chunk([]byte(text), 8) {
		b, _ := strconv.ParseUint(string(eight), 2, 8)
		out = append(out, byte(b))
	}
	return string(out)
}

// modelValues cuts bytes' bits as the fields are wide, and tells what stands behind them.
func modelValues(h api.Header, b string) ([]api.Bits, bool) {
	var text strings.Builder
	for _, x := range []byte(b) {
		fmt.Fprintf(&text, "%08b", x)
	}
	left := text.String()
	var values []api.Bits
	for _, f := range h.Fields {
		if len(left) < f.Width {
			return nil, false
		}
		x, _ := new(big.Int).SetString(left[:f.Width], 2)
		values = append(values, fromBig(x))
		left = left[f.Width:]
	}
	return values, left == ""
}

// modelSize is how many bytes a header has.
func modelSize(h api.Header) int { return len(modelBytes(h, make([]api.Bits, len(h.Fields)))) }

// modelHeader is the header of a name.
func modelHeader(s api.Schema, name string) (api.Header, bool) {
	for _, h := range s.Headers {
		if h.Name == name {
			return h, true
		}
	}
	return api.Header{}, false
}

// modelWidth is a field's width; 0: there is none.
func modelWidth(s api.Schema, r api.Ref) int {
	list := s.Meta
	if r.Head != "meta" {
		h, _ := modelHeader(s, r.Head)
		list = h.Fields
	}
	for _, f := range list {
		if f.Name == r.Name {
			return f.Width
		}
	}
	return 0
}

// A model is a packet: the headers that are there, the values of all fields that there are.
type model struct {
	there  map[string]bool
	values map[api.Ref]api.Bits
	rest   string
}

// modelOf is the model of a right packet.
func modelOf(s api.Schema, p api.Packet) model {
	m := model{there: map[string]bool{}, values: map[api.Ref]api.Bits{}, rest: p.Rest}
	for i, f := range s.Meta {
		m.values[ref("meta", f.Name)] = p.Meta[i]
	}
	for _, x := range p.Heads {
		h, _ := modelHeader(s, x.Name)
		m.put(h, x.Values)
	}
	return m
}

// put makes a header be there.
func (m model) put(h api.Header, values []api.Bits) {
	m.there[h.Name] = true
	for i, f := range h.Fields {
		m.values[ref(h.Name, f.Name)] = values[i]
	}
}

// header are the values of a header.
func (m model) header(h api.Header) []api.Bits {
	var list []api.Bits
	for _, f := range h.Fields {
		list = append(list, m.values[ref(h.Name, f.Name)])
	}
	return list
}

// packet is the packet that a model is of.
func (m model) packet(s api.Schema) api.Packet {
	p := api.Packet{Rest: m.rest}
	for _, h := range s.Headers {
		if m.there[h.Name] {
			p.Heads = append(p.Heads, api.Filled{Name: h.Name, Values: m.header(h)})
		}
	}
	p.Meta = m.header(api.Header{Name: "meta", Fields: s.Meta})
	return p
}

// modelParse takes a packet apart by the words of P10.1, but for its length and the schema.
func modelParse(s api.Schema, in []api.Bits, packet string) (api.Packet, api.Errno) {
	m := model{there: map[string]bool{}, values: map[api.Ref]api.Bits{}, rest: packet}
	for i, f := range s.Meta {
		m.values[ref("meta", f.Name)] = api.Bits{}
		if i < len(in) {
			m.values[ref("meta", f.Name)] = modelCut(in[i], f.Width)
		}
	}
	var goOn func(name string) api.Errno
	goOn = func(name string) api.Errno {
		switch name {
		case "accept":
			return api.OK
		case "reject":
			return api.ErrReject
		}
		x := s.States[slices.IndexFunc(s.States, func(x api.State) bool { return x.Name == name })]
		h, _ := modelHeader(s, x.Header)
		size := modelSize(h)
		if m.there[h.Name] {
			return api.ErrAgain
		}
		if len(m.rest) < size {
			return api.ErrShort
		}
		values, _ := modelValues(h, m.rest[:size])
		m.put(h, values)
		m.rest = m.rest[size:]
		if x.On != ref("", "") {
			on := toBig(m.values[x.On])
			for _, c := range x.Cases {
				differ := new(big.Int).Xor(on, toBig(c.Value))
				if differ.And(differ, toBig(c.Mask)).Sign() == 0 {
					return goOn(c.Next)
				}
			}
		}
		return goOn(x.Next)
	}
	if len(s.States) > 0 {
		if e := goOn(s.States[0].Name); e != api.OK {
			return api.Packet{}, e
		}
	}
	return m.packet(s), api.OK
}

// modelRight tells whether a packet is right for a sound schema: its heads are a part of the schema's headers, in order.
func modelRight(s api.Schema, p api.Packet) bool {
	all := func(values []api.Bits, list []api.Field) bool {
		if len(values) != len(list) {
			return false
		}
		for i, f := range list {
			if !modelFits(values[i], f.Width) {
				return false
			}
		}
		return true
	}
	left := p.Heads
	for _, h := range s.Headers {
		if len(left) > 0 && left[0].Name == h.Name {
			if !all(left[0].Values, h.Fields) {
				return false
			}
			left = left[1:]
		}
	}
	return len(left) == 0 && all(p.Meta, s.Meta)
}

// modelBuild are the bytes of a right packet, of any length.
func modelBuild(s api.Schema, p api.Packet) string {
	out := ""
	for _, x := range p.Heads {
		h, _ := modelHeader(s, x.Name)
		out += modelBytes(h, x.Values)
	}
	return out + p.Rest
}

// modelSet, modelAdd, modelRemove and modelSum are the packets behind these, of a right one.
func modelSet(s api.Schema, p api.Packet, r api.Ref, a api.Bits) api.Packet {
	m := modelOf(s, p)
	if _, ok := m.values[r]; ok {
		m.values[r] = modelCut(a, modelWidth(s, r))
	}
	return m.packet(s)
}

func modelAdd(s api.Schema, p api.Packet, name string) api.Packet {
	m := modelOf(s, p)
	if h, ok := modelHeader(s, name); ok {
		m.put(h, make([]api.Bits, len(h.Fields)))
	}
	return m.packet(s)
}

func modelRemove(s api.Schema, p api.Packet, name string) api.Packet {
	m := modelOf(s, p)
	delete(m.there, name)
	return m.packet(s)
}

func modelSum(s api.Schema, p api.Packet, r api.Ref) api.Packet {
	m := modelOf(s, p)
	if r.Head == "meta" || !m.there[r.Head] || modelWidth(s, r) != 16 {
		return p
	}
	h, _ := modelHeader(s, r.Head)
	m.values[r] = api.Bits{}
	m.values[r] = n(uint64(modelOnes(modelBytes(h, m.header(h)))))
	return m.packet(s)
}

// modelOnes is FFFF less the sum of words: folding keeps what is left of a division by FFFF, and makes 0 of 0 alone.
func modelOnes(b string) int {
	sum := 0
	for i, x := range []byte(b) {
		if i%2 == 0 {
			sum += int(x) * 256
		} else {
			sum += int(x)
		}
	}
	if sum == 0 {
		return 0xFFFF
	}
	return 0xFFFF - ((sum-1)%0xFFFF + 1)
}
