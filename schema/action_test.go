package schema_test

import (
	"math"
	"testing"

	"turnout/api"
)

// P7.2: actions.

// action is a turn that lays an action z(p 8, q 16) behind the others.
func action(steps ...api.Step) func(*api.Schema) {
	return func(s *api.Schema) {
		s.Actions = append(s.Actions, api.Action{Name: "z", Params: []api.Field{{Name: "p", Width: 8}, {Name: "q", Width: 16}}, Steps: steps})
	}
}

func TestCheckActions(t *testing.T) {
	fill := func(count int) func(*api.Schema) {
		return func(s *api.Schema) {
			for _, name := range names("more", count-len(s.Actions)) {
				s.Actions = append(s.Actions, api.Action{Name: name})
			}
		}
	}
	with := func(list ...api.Field) func(*api.Schema) {
		return func(s *api.Schema) { s.Actions = append(s.Actions, api.Action{Name: "z", Params: list}) }
	}
	steps := make([]api.Step, 33)
	for i := range steps {
		steps[i].Kind = api.StepDrop
	}
	checkTurned(t, []turned{
		{"64 actions", fill(64), api.OK, ""},
		{"65 actions", fill(65), api.ErrMany, "action"},
		{"no name", func(s *api.Schema) { s.Actions[3].Name = "Grow" }, api.ErrName, "action Grow"},
		{"twice", func(s *api.Schema) { s.Actions[3].Name = "out" }, api.ErrTwice, "action out"},
		{"called as a table", func(s *api.Schema) { s.Actions = append(s.Actions, api.Action{Name: "route"}) }, api.OK, ""},
		{"8 parameters", with(fields(8, 1)...), api.OK, ""},
		{"9 parameters", with(fields(9, 1)...), api.ErrMany, "action z"},
		{"32 steps", action(steps[:32]...), api.OK, ""},
		{"33 steps", action(steps...), api.ErrMany, "action z"},
		{"a parameter that has no name", with(api.Field{Name: "p_1", Width: 1}, api.Field{Name: "1p", Width: 1}), api.ErrName, "action z"},
		{"a parameter twice", with(api.Field{Name: "a", Width: 1}, api.Field{Name: "b", Width: 1}, api.Field{Name: "a", Width: 2}), api.ErrTwice, "action z"},
		{"a parameter of two actions", with(api.Field{Name: "p", Width: 1}), api.OK, ""},
		{"a parameter of 0 bits", with(api.Field{Name: "a"}), api.ErrBits, "action z"},
		{"a parameter of 128 bits", with(api.Field{Name: "a", Width: 128}), api.OK, ""},
		{"a parameter of 129 bits", with(api.Field{Name: "a", Width: 129}), api.ErrBits, "action z"},
		{"a parameter of -1 bits", with(api.Field{Name: "a", Width: -1}), api.ErrBits, "action z"},
	})
}

// A stepped is a step, and what Check must answer of an action with it.
type stepped struct {
	what string
	step api.Step
	code api.Errno
}

func checkSteps(t *testing.T, list []stepped) {
	t.Helper()
	for _, x := range list {
		thing := ""
		if x.code != api.OK {
			thing = "action z"
		}
		checkTurned(t, []turned{
			{x.what, action(x.step), x.code, thing},
			{x.what + ", as the second one", action(api.Step{Kind: api.StepDrop}, x.step), x.code, thing},
		})
	}
}

func TestCheckStepKinds(t *testing.T) {
	drop, again := api.Step{Kind: api.StepDrop}, api.Step{Kind: api.StepAgain}
	grow, sum := api.Step{Kind: api.StepAdd, To: ref("ip", "")}, api.Step{Kind: api.StepSum, To: ref("ip", "check")}
	remove := api.Step{Kind: api.StepRemove, To: ref("ip", "")}
	with := func(step api.Step, turn func(*api.Step)) api.Step {
		turn(&step)
		return step
	}
	list := []stepped{
		{"kind 0", api.Step{}, api.ErrKind},
		{"kind 0 that looks like a set", with(set(ref("ip", "ttl"), api.OpCopy, num(1), api.Operand{}), func(s *api.Step) { s.Kind = 0 }), api.ErrKind},
		{"kind 7", api.Step{Kind: 7}, api.ErrKind},
		{"kind -1", api.Step{Kind: -1}, api.ErrKind},
		{"the greatest kind", api.Step{Kind: math.MaxInt}, api.ErrKind},
	}
	for _, step := range []api.Step{drop, again, grow, remove, sum} {
		list = append(list, []stepped{
			{"as it is", step, api.OK},
			{"with an Op", with(step, func(s *api.Step) { s.Op = api.OpAdd }), api.ErrKind},
			{"with an Op that is none", with(step, func(s *api.Step) { s.Op = -1 }), api.ErrKind},
			{"with a field A", with(step, func(s *api.Step) { s.A = at("ip", "ttl") }), api.ErrKind},
			{"with a constant A", with(step, func(s *api.Step) { s.A = num(1) }), api.ErrKind},
			{"with a head of A", with(step, func(s *api.Step) { s.A = at("ip", "") }), api.ErrKind},
			{"with a name of A", with(step, func(s *api.Step) { s.A = at("", "p") }), api.ErrKind},
			{"with a field B", with(step, func(s *api.Step) { s.B = at("ip", "ttl") }), api.ErrKind},
			{"with a constant B", with(step, func(s *api.Step) { s.B = api.Operand{Const: api.Bits{Hi: 1}} }), api.ErrKind},
		}...)
	}
	for _, step := range []api.Step{drop, again} {
		list = append(list, stepped{"with a head", with(step, func(s *api.Step) { s.To.Head = "ip" }), api.ErrKind}, stepped{"with a name", with(step, func(s *api.Step) { s.To.Name = "p" }), api.ErrKind})
	}
	for _, kind := range []int{api.StepAdd, api.StepRemove} {
		list = append(list, []stepped{
			{"a field", api.Step{Kind: kind, To: ref("ip", "ttl")}, api.ErrKind},
			{"a name alone", api.Step{Kind: kind, To: ref("", "ip")}, api.ErrKind},
			{"nothing", api.Step{Kind: kind}, api.ErrUnknown},
			{"no such header", api.Step{Kind: kind, To: ref("tcp", "")}, api.ErrUnknown},
			{"metadata", api.Step{Kind: kind, To: ref("meta", "")}, api.ErrUnknown},
			{"an action's name", api.Step{Kind: kind, To: ref("out", "")}, api.ErrUnknown},
		}...)
	}
	checkSteps(t, list)
}

func TestCheckSums(t *testing.T) {
	sum := func(head, name string) api.Step { return api.Step{Kind: api.StepSum, To: ref(head, name)} }
	checkSteps(t, []stepped{
		{"16 bits", sum("ip", "check"), api.OK},
		{"16 bits, called otherwise", sum("eth", "type"), api.OK},
		{"8 bits", sum("ip", "ttl"), api.ErrBits},
		{"32 bits", sum("ip", "src"), api.ErrBits},
		{"128 bits", sum("opt", "b"), api.ErrBits},
		{"metadata", sum("meta", "port"), api.ErrUnknown},
		{"metadata that is not there", sum("meta", "x"), api.ErrUnknown},
		{"no such field", sum("ip", "x"), api.ErrUnknown},
		{"no such header", sum("tcp", "check"), api.ErrUnknown},
		{"a whole header", sum("ip", ""), api.ErrUnknown},
		{"nothing", sum("", ""), api.ErrUnknown},
		{"a parameter of 16 bits", sum("", "q"), api.ErrUnknown},
	})
	for width := 1; width <= 128; width++ {
		code, thing := api.ErrBits, "action z"
		if width == 16 {
			code, thing = api.OK, ""
		}
		checkTurned(t, []turned{
			{"a field of this width", func(s *api.Schema) {
				s.Headers[2].Fields = append(fields(8, width), s.Headers[2].Fields...)
				action(sum("opt", "f7"))(s)
			}, code, thing},
			{"metadata of this width", func(s *api.Schema) {
				s.Meta = append(s.Meta, api.Field{Name: "w", Width: width})
				action(sum("meta", "w"))(s)
			}, api.ErrUnknown, "action z"},
		})
	}
}

func TestCheckSets(t *testing.T) {
	ttl, check, port, wide := ref("ip", "ttl"), ref("ip", "check"), ref("meta", "port"), ref("opt", "b")
	zero := api.Operand{}
	most := api.Operand{Const: api.Bits{Hi: math.MaxUint64, Lo: math.MaxUint64}}
	checkSteps(t, []stepped{
		{"copy a parameter", set(ttl, api.OpCopy, at("", "p"), zero), api.OK},
		{"copy a field", set(ttl, api.OpCopy, at("ip", "proto"), zero), api.OK},
		{"copy itself", set(ttl, api.OpCopy, at("ip", "ttl"), zero), api.OK},
		{"copy 0", set(ttl, api.OpCopy, zero, zero), api.OK},
		{"copy 255 into 8 bits", set(ttl, api.OpCopy, num(255), zero), api.OK},
		{"copy 256 into 8 bits", set(ttl, api.OpCopy, num(256), zero), api.ErrBits},
		{"copy 511 into 9 bits", set(port, api.OpCopy, num(511), zero), api.OK},
		{"copy 512 into 9 bits", set(port, api.OpCopy, num(512), zero), api.ErrBits},
		{"copy 2^64 into 9 bits", set(port, api.OpCopy, api.Operand{Const: api.Bits{Hi: 1}}, zero), api.ErrBits},
		{"copy all ones into 128 bits", set(wide, api.OpCopy, most, zero), api.OK},
		{"copy a parameter of another width", set(port, api.OpCopy, at("", "p"), zero), api.ErrBits},
		{"copy a narrower field", set(check, api.OpCopy, at("ip", "ttl"), zero), api.ErrBits},
		{"copy a wider field", set(ttl, api.OpCopy, at("ip", "check"), zero), api.ErrBits},
		{"copy with a B", set(ttl, api.OpCopy, num(1), num(1)), api.ErrKind},
		{"copy with a field B", set(ttl, api.OpCopy, num(1), at("ip", "ttl")), api.ErrKind},
		{"operation -1", set(ttl, -1, num(1), num(1)), api.ErrKind},
		{"operation 6", set(ttl, 6, num(1), num(1)), api.ErrKind},
		{"operation 6, nothing else", set(api.Ref{}, 6, zero, zero), api.ErrKind},
		{"add", set(ttl, api.OpAdd, at("ip", "proto"), at("", "p")), api.OK},
		{"less", set(ttl, api.OpSub, at("ip", "ttl"), num(1)), api.OK},
		{"and", set(ttl, api.OpAnd, num(255), at("", "p")), api.OK},
		{"or two constants", set(ttl, api.OpOr, num(255), num(255)), api.OK},
		{"xor with 0", set(ttl, api.OpXor, at("ip", "ttl"), zero), api.OK},
		{"a B of 256", set(ttl, api.OpXor, at("ip", "ttl"), num(256)), api.ErrBits},
		{"an A of 256", set(ttl, api.OpXor, num(256), at("ip", "ttl")), api.ErrBits},
		{"a B of another width", set(ttl, api.OpAdd, at("ip", "ttl"), at("", "q")), api.ErrBits},
		{"an A of another width", set(ttl, api.OpAdd, at("", "q"), at("ip", "ttl")), api.ErrBits},
		{"both of another width", set(ttl, api.OpAdd, at("", "q"), at("ip", "check")), api.ErrBits},
		{"to nothing", set(api.Ref{}, api.OpCopy, num(0), zero), api.ErrUnknown},
		{"to a parameter", set(ref("", "p"), api.OpCopy, num(0), zero), api.ErrUnknown},
		{"to a header", set(ref("ip", ""), api.OpCopy, num(0), zero), api.ErrUnknown},
		{"to no such field", set(ref("ip", "x"), api.OpCopy, num(0), zero), api.ErrUnknown},
		{"to no such header", set(ref("tcp", "ttl"), api.OpCopy, num(0), zero), api.ErrUnknown},
		{"to no such metadata", set(ref("meta", "ttl"), api.OpCopy, num(0), zero), api.ErrUnknown},
		{"an A that is not there", set(ttl, api.OpCopy, at("", "x"), zero), api.ErrUnknown},
		{"an A of the metadata that is not there", set(ttl, api.OpCopy, at("meta", "p"), zero), api.ErrUnknown},
		{"a field's name alone", set(ttl, api.OpCopy, at("", "ttl"), zero), api.ErrUnknown},
		{"a header as A", set(ttl, api.OpCopy, at("ip", ""), zero), api.ErrUnknown},
		{"a parameter of another action", set(ttl, api.OpCopy, at("", "d"), zero), api.ErrUnknown},
		{"a B that is not there", set(ttl, api.OpAdd, num(1), at("ip", "x")), api.ErrUnknown},
		{"an A too wide, a B that is not there", set(ttl, api.OpAdd, num(256), at("ip", "x")), api.ErrUnknown},
		{"a constant beside a reference in A", set(ttl, api.OpCopy, api.Operand{Ref: ttl, Const: n(1)}, zero), api.ErrKind},
		{"a constant beside a parameter in A", set(ttl, api.OpCopy, api.Operand{Ref: ref("", "p"), Const: n(1)}, zero), api.ErrKind},
		{"a constant beside a head in A", set(ttl, api.OpCopy, api.Operand{Ref: ref("ip", ""), Const: n(1)}, zero), api.ErrKind},
		{"a high constant beside a reference in B", set(ttl, api.OpAdd, num(1), api.Operand{Ref: ttl, Const: api.Bits{Hi: 1}}), api.ErrKind},
	})
}

// TestParametersAreTheActions: a parameter is found in its own action alone, be it called as another one's.
func TestParametersAreTheActions(t *testing.T) {
	with := func(width int, steps ...api.Step) api.Action {
		return api.Action{Params: []api.Field{{Name: "p", Width: width}}, Steps: steps}
	}
	s := sample()
	s.Actions = []api.Action{
		with(8, set(ref("ip", "ttl"), api.OpCopy, at("", "p"), api.Operand{})),
		with(9, set(ref("meta", "port"), api.OpCopy, at("", "p"), api.Operand{})),
		{Steps: []api.Step{set(ref("meta", "port"), api.OpCopy, at("", "p"), api.Operand{})}},
	}
	s.Actions[0].Name, s.Actions[1].Name, s.Actions[2].Name = "a", "b", "c"
	check(t, "the third one has no parameter", s, api.ErrUnknown, "action c")
	s.Actions[0].Params[0].Width = 9
	check(t, "the first one is too wide", s, api.ErrBits, "action a")
}
