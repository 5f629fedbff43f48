package pipe

import (
	"slices"

	"turnout/api"
	"turnout/schema"
	"turnout/value"
)

// metaHead is the Head of a reference to the metadata.
const metaHead = "meta"

// A place is where a value stands in a flow: the group, and the field in it.
type place struct{ group, field int }

// An operand tells its value over a packet, in an action with some arguments.
type operand func(f *flow, args []api.Bits) api.Bits

// An action is one of the schema's, made ready.
type action struct {
	widths []int // of its parameters
	steps  []step
}

// A step is one of an action's. A field that its kind does not name is never looked at.
type step struct {
	kind  int
	ref   api.Ref // what is set, added, removed or summed,
	to    place   // its place,
	width int     // and its width
	op    int
	a, b  operand
}

// A stage is one of the control's.
type stage struct {
	kind   int
	table  string           // that is asked,
	key    []place          // for the values there
	holds  func(*flow) bool // its test
	then   []stage
	orElse []stage
}

// place is where the value of a field stands. Of a header's name alone, its group; what names nothing has no place, and is never asked for it.
func (p *Pipe) place(r api.Ref) place {
	group := slices.IndexFunc(p.groups, func(h api.Header) bool { return h.Name == r.Head })
	if group < 0 {
		return place{group: -1, field: -1}
	}
	return place{group: group, field: fieldAt(p.groups[group].Fields, r.Name)}
}

// fieldAt is the place of the field, or parameter, of a name; below 0: there is none.
func fieldAt(fields []api.Field, name string) int {
	return slices.IndexFunc(fields, func(f api.Field) bool { return f.Name == name })
}

// ready makes an action ready.
func (p *Pipe) ready(a api.Action) action {
	var out action
	for _, f := range a.Params {
		out.widths = append(out.widths, f.Width)
	}
	for _, s := range a.Steps {
		out.steps = append(out.steps, step{
			kind:  s.Kind,
			ref:   s.To,
			to:    p.place(s.To),
			width: schema.Width(p.plain, s.To),
			op:    s.Op,
			a:     p.operand(s.A, a.Params),
			b:     p.operand(s.B, a.Params),
		})
	}
	return out
}

// operand makes an operand of an action with these parameters ready.
func (p *Pipe) operand(o api.Operand, params []api.Field) operand {
	if o.Ref == (api.Ref{}) {
		return func(*flow, []api.Bits) api.Bits { return o.Const }
	}
	if o.Ref.Head == "" {
		at := fieldAt(params, o.Ref.Name)
		return func(_ *flow, args []api.Bits) api.Bits { return args[at] }
	}
	at := p.place(o.Ref)
	return func(f *flow, _ []api.Bits) api.Bits { return f.value(at) }
}

// stages makes the stages of a list ready, and those within them.
func (p *Pipe) stages(list []api.Stage) []stage {
	var out []stage
	for _, s := range list {
		x := stage{kind: s.Kind, table: s.Table, then: p.stages(s.Then), orElse: p.stages(s.Else)}
		switch s.Kind {
		case api.StageApply:
			x.key = p.key(s.Table)
		case api.StageIf:
			x.holds = p.test(s.Test)
		}
		out = append(out, x)
	}
	return out
}

// key is where the values of a table's key stand.
func (p *Pipe) key(name string) []place {
	table, _, _ := schema.Table(p.called, name)
	var out []place
	for _, part := range table.Keys {
		out = append(out, p.place(part.Ref))
	}
	return out
}

// test makes a stage's test ready.
func (p *Pipe) test(t api.Test) func(*flow) bool {
	if t.Kind == api.TestValid {
		at := p.place(t.A.Ref)
		return func(f *flow) bool { return f.groups[at.group] != nil }
	}
	a, b := p.operand(t.A, nil), p.operand(t.B, nil)
	return func(f *flow) bool { return isOrder(t.Kind, value.Compare(a(f, nil), b(f, nil))) }
}

// isOrder tells whether two values in this order (below 0: the first one is less) are as a test of a kind asks.
func isOrder(kind, order int) bool {
	switch kind {
	case api.TestEq:
		return order == 0
	case api.TestNe:
		return order != 0
	case api.TestLt:
		return order < 0
	}
	return order <= 0
}
