package pipe

import (
	"slices"
	"strings"

	"turnout/api"
	"turnout/value"
	"turnout/wire"
)

// A flow is a packet on which actions are done. Its values stand in groups, in the places of the pipe's groups; the group of a header that is not there is nil.
type flow struct {
	pipe    *Pipe
	groups  [][]api.Bits
	rest    string
	dropped bool
	again   bool // since this was last made false
}

// flow lays out a packet that is right. Its headers stand in the schema's order.
func (p *Pipe) flow(k api.Packet) *flow {
	f := &flow{pipe: p, groups: make([][]api.Bits, len(p.groups)), rest: k.Rest}
	at := 0
	for _, h := range k.Heads {
		for p.groups[at].Name != h.Name {
			at++
		}
		f.groups[at] = slices.Clone(h.Values)
	}
	f.groups[f.metaAt()] = slices.Clone(k.Meta)
	return f
}

// metaAt is the metadata's place.
func (f *flow) metaAt() int { return len(f.groups) - 1 }

// packet is the packet that it is now. Its lists are the flow's: it is asked for once, at the end.
func (f *flow) packet() api.Packet {
	k := api.Packet{Meta: f.groups[f.metaAt()], Rest: strings.Clone(f.rest)}
	for at, values := range f.groups[:f.metaAt()] {
		if values != nil {
			k.Heads = append(k.Heads, api.Filled{Name: strings.Clone(f.pipe.groups[at].Name), Values: values})
		}
	}
	return k
}

// value is what stands in a place; 0, where the header is not there.
func (f *flow) value(at place) api.Bits {
	if f.groups[at.group] == nil {
		return api.Bits{}
	}
	return f.groups[at.group][at.field]
}

// do does an action with arguments that fit.
func (f *flow) do(a action, args []api.Bits) {
	for _, s := range a.steps {
		f.pipe.does[s.kind](f, s, args)
	}
}

// whatStepsDo is what a step of each kind does.
func whatStepsDo() []func(*flow, step, []api.Bits) {
	return []func(*flow, step, []api.Bits){
		api.StepSet:    (*flow).set,
		api.StepDrop:   (*flow).drop,
		api.StepAdd:    (*flow).add,
		api.StepRemove: (*flow).remove,
		api.StepSum:    (*flow).sum,
		api.StepAgain:  (*flow).goAgain,
	}
}

// set sets a field. Nothing has to be cut: the operands fit the field's width.
func (f *flow) set(s step, args []api.Bits) {
	if values := f.groups[s.to.group]; values != nil {
		values[s.to.field] = made(s.op, s.a(f, args), s.b(f, args), s.width)
	}
}

// made is what an operation makes of two values of a width; a copy leaves the first one.
func made(op int, a, b api.Bits, width int) api.Bits {
	switch op {
	case api.OpAdd:
		return value.Add(a, b, width)
	case api.OpSub:
		return value.Sub(a, b, width)
	case api.OpAnd:
		return value.And(a, b)
	case api.OpOr:
		return value.Or(a, b)
	case api.OpXor:
		return value.Xor(a, b)
	}
	return a
}

func (f *flow) drop(step, []api.Bits) { f.dropped = true }

// add lays a header there, all its fields 0, also if it was there.
func (f *flow) add(s step, _ []api.Bits) {
	f.groups[s.to.group] = make([]api.Bits, len(f.pipe.groups[s.to.group].Fields))
}

func (f *flow) remove(s step, _ []api.Bits) { f.groups[s.to.group] = nil }

// sum sums a header that is there. Wire is handed that header alone.
func (f *flow) sum(s step, _ []api.Bits) {
	values := f.groups[s.to.group]
	if values == nil {
		return
	}
	alone := api.Schema{Headers: []api.Header{f.pipe.groups[s.to.group]}}
	k := api.Packet{Heads: []api.Filled{{Name: s.ref.Head, Values: values}}}
	f.groups[s.to.group] = wire.Sum(alone, k, s.ref).Heads[0].Values
}

func (f *flow) goAgain(step, []api.Bits) { f.again = true }
