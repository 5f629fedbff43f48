package schema_test

import (
	"math"
	"slices"
	"testing"

	"turnout/api"
)

// P7.2: the control.

// checkControl holds Check's answer of the sample with another control against what it must be.
func checkControl(t *testing.T, what string, code api.Errno, control ...api.Stage) {
	t.Helper()
	thing := ""
	if code != api.OK {
		thing = "control"
	}
	checkTurned(t, []turned{{what, func(s *api.Schema) { s.Control = control }, code, thing}})
}

// nested is a stage of so many within one another; the last one is the one handed over.
func nested(depth int, last api.Stage, within func(api.Stage) api.Stage) api.Stage {
	for range depth - 1 {
		last = within(last)
	}
	return last
}

func inThen(stage api.Stage) api.Stage { return valid("ip", stage) }

func inElse(stage api.Stage) api.Stage { return or(valid("ip"), exit(), stage) }

func TestCheckSizeOfControl(t *testing.T) {
	for _, within := range []func(api.Stage) api.Stage{inThen, inElse} {
		checkControl(t, "8 deep", api.OK, nested(8, apply("mac"), within))
		checkControl(t, "9 deep", api.ErrDeep, nested(9, apply("mac"), within))
		checkControl(t, "8 deep, the last one wrong", api.ErrUnknown, nested(8, apply("x"), within))
		checkControl(t, "9 deep, the first one wrong", api.ErrDeep, apply("x"), nested(9, exit(), within))
	}
	checkControl(t, "128 deep", api.ErrDeep, nested(128, exit(), inThen))
	checkControl(t, "129 deep", api.ErrMany, nested(129, exit(), inThen))
	checkControl(t, "1000 deep", api.ErrMany, nested(1000, exit(), inThen))
	exits := slices.Repeat([]api.Stage{exit()}, 200)
	checkControl(t, "128 stages", api.OK, exits[:128]...)
	checkControl(t, "129 stages", api.ErrMany, exits[:129]...)
	checkControl(t, "128 stages in all", api.OK, or(valid("ip", exits[:40]...), exits[:80]...), apply("acl", exits[:6]...))
	checkControl(t, "129 stages in all", api.ErrMany, or(valid("ip", exits[:40]...), exits[:80]...), apply("acl", exits[:7]...))
	checkControl(t, "129 stages in all, in Else alone", api.ErrMany, or(valid("ip"), exits[:128]...))
	checkControl(t, "129 stages, one 9 deep", api.ErrMany, append([]api.Stage{nested(9, exit(), inThen)}, exits[:120]...)...)
	checkControl(t, "128 stages, one 9 deep", api.ErrDeep, append([]api.Stage{nested(9, exit(), inThen)}, exits[:119]...)...)
	checkControl(t, "129 stages, the first one of no kind", api.ErrMany, append([]api.Stage{{}}, exits[:128]...)...)
	within := exit()
	within.Then = exits[:128]
	checkControl(t, "129 stages, in an exit", api.ErrMany, within)
	within.Then = exits[:127]
	checkControl(t, "128 stages, in an exit", api.ErrKind, within)
	checkControl(t, "9 deep, in stages of no kind", api.ErrDeep, nested(9, exit(), func(s api.Stage) api.Stage { return api.Stage{Then: []api.Stage{s}} }))
	checkControl(t, "8 deep, in stages of no kind", api.ErrKind, nested(8, exit(), func(s api.Stage) api.Stage { return api.Stage{Then: []api.Stage{s}} }))
}

func TestCheckStages(t *testing.T) {
	with := func(stage api.Stage, turn func(*api.Stage)) api.Stage {
		turn(&stage)
		return stage
	}
	for _, kind := range []int{0, 4, -1, math.MaxInt, math.MinInt} {
		checkControl(t, "a stage of no kind", api.ErrKind, api.Stage{Kind: kind})
		checkControl(t, "a stage of no kind, behind an exit", api.ErrKind, exit(), api.Stage{Kind: kind})
		checkControl(t, "a stage of no kind that has a table", api.ErrKind, api.Stage{Kind: kind, Table: "mac"})
	}
	checkControl(t, "nothing", api.OK)
	checkControl(t, "apply", api.OK, apply("mac"))
	checkControl(t, "apply, with empty lists", api.OK, api.Stage{Kind: api.StageApply, Table: "mac", Then: []api.Stage{}, Else: []api.Stage{}})
	checkControl(t, "apply, with both lists", api.OK, or(apply("mac", exit()), exit()))
	checkControl(t, "apply no table", api.ErrUnknown, apply(""))
	checkControl(t, "apply no such table", api.ErrUnknown, apply("x"))
	checkControl(t, "apply an action", api.ErrUnknown, apply("out"))
	checkControl(t, "apply twice", api.ErrTwice, apply("mac"), apply("acl"), apply("mac"))
	checkControl(t, "apply within itself", api.ErrTwice, apply("mac", apply("mac")))
	checkControl(t, "apply in Then and in Else", api.ErrTwice, or(valid("ip", apply("mac")), apply("mac")))
	checkControl(t, "apply behind an exit again", api.ErrTwice, apply("mac"), exit(), apply("mac"))
	checkControl(t, "apply no such table twice", api.ErrUnknown, apply("mac"), apply("x"), apply("x"))
	checkControl(t, "apply with a test", api.ErrKind, with(apply("mac"), func(s *api.Stage) { s.Test = valid("ip").Test }))
	checkControl(t, "apply with a test's kind", api.ErrKind, with(apply("mac"), func(s *api.Stage) { s.Test.Kind = 9 }))
	checkControl(t, "apply with a test's A", api.ErrKind, with(apply("mac"), func(s *api.Stage) { s.Test.A = num(1) }))
	checkControl(t, "apply with a test's B", api.ErrKind, with(apply("mac"), func(s *api.Stage) { s.Test.B = at("", "p") }))
	checkControl(t, "if with a table", api.ErrKind, with(valid("ip"), func(s *api.Stage) { s.Table = "mac" }))
	checkControl(t, "exit", api.OK, exit())
	checkControl(t, "exit with empty lists", api.OK, api.Stage{Kind: api.StageExit, Then: []api.Stage{}, Else: []api.Stage{}})
	checkControl(t, "exit with a table", api.ErrKind, with(exit(), func(s *api.Stage) { s.Table = "mac" }))
	checkControl(t, "exit with a test", api.ErrKind, with(exit(), func(s *api.Stage) { s.Test.B = num(1) }))
	checkControl(t, "exit with a Then", api.ErrKind, with(exit(), func(s *api.Stage) { s.Then = []api.Stage{apply("mac")} }))
	checkControl(t, "exit with an Else", api.ErrKind, or(exit(), apply("mac")))
	checkControl(t, "exit within a Then, and something behind it", api.OK, valid("ip", exit(), apply("mac")), apply("acl"))
}

// TestCheckFromAbove: of two wrong stages the upper one counts.
func TestCheckFromAbove(t *testing.T) {
	wide := when(api.TestEq, num(1), num(1)) // ErrBits
	lost := apply("x")                       // ErrUnknown
	checkControl(t, "a stage ahead of its Then", api.ErrBits, when(api.TestEq, num(1), num(1), lost))
	checkControl(t, "a stage ahead of its Else", api.ErrBits, or(wide, lost))
	checkControl(t, "Then ahead of Else", api.ErrBits, or(valid("ip", wide), lost))
	checkControl(t, "Then ahead of Else, the other way round", api.ErrUnknown, or(valid("ip", lost), wide))
	checkControl(t, "Else ahead of what stands behind", api.ErrBits, or(valid("ip"), wide), lost)
	checkControl(t, "Then ahead of what stands behind", api.ErrUnknown, valid("ip", valid("ip", lost)), wide)
	checkControl(t, "a table that stands in Then and behind", api.ErrTwice, valid("ip", apply("mac")), apply("mac"), lost)
	checkControl(t, "no kind, behind", api.ErrUnknown, lost, api.Stage{})
}

func TestCheckTests(t *testing.T) {
	zero := api.Operand{}
	both := api.Operand{Ref: ref("ip", "ttl"), Const: n(1)}
	for _, kind := range []int{0, 6, -1, math.MaxInt} {
		checkControl(t, "a test of no kind", api.ErrKind, when(kind, zero, zero))
		checkControl(t, "a test of no kind, of fields", api.ErrKind, when(kind, at("ip", "ttl"), at("ip", "ttl")))
	}
	checkControl(t, "valid", api.OK, valid("opt"))
	checkControl(t, "valid nothing", api.ErrUnknown, valid(""))
	checkControl(t, "valid metadata", api.ErrUnknown, valid("meta"))
	checkControl(t, "valid, no such header", api.ErrUnknown, valid("tcp"))
	checkControl(t, "valid, a field", api.ErrKind, when(api.TestValid, at("ip", "ttl"), zero))
	checkControl(t, "valid, a constant", api.ErrKind, when(api.TestValid, num(1), zero))
	checkControl(t, "valid, a header and a constant", api.ErrKind, when(api.TestValid, api.Operand{Ref: ref("ip", ""), Const: n(1)}, zero))
	checkControl(t, "valid, with a B", api.ErrKind, when(api.TestValid, at("ip", ""), at("ip", "")))
	checkControl(t, "valid, with a constant B", api.ErrKind, when(api.TestValid, at("ip", ""), num(1)))
	for _, kind := range []int{api.TestEq, api.TestNe, api.TestLt, api.TestLe} {
		for _, x := range []struct {
			what string
			code api.Errno
			a, b api.Operand
		}{
			{"two fields", api.OK, at("ip", "ttl"), at("ip", "proto")},
			{"a field and metadata", api.OK, at("ip", "src"), at("meta", "mark")},
			{"a field and itself", api.OK, at("ip", "src"), at("ip", "src")},
			{"a field and 255", api.OK, at("ip", "ttl"), num(255)},
			{"255 and a field", api.OK, num(255), at("ip", "ttl")},
			{"a field and 0", api.OK, at("ip", "ttl"), zero},
			{"a field and 256", api.ErrBits, at("ip", "ttl"), num(256)},
			{"256 and a field", api.ErrBits, num(256), at("ip", "ttl")},
			{"2^64 and a field", api.ErrBits, api.Operand{Const: api.Bits{Hi: 1}}, at("ip", "ttl")},
			{"all ones and 128 bits", api.OK, at("opt", "b"), api.Operand{Const: api.Bits{Hi: math.MaxUint64, Lo: math.MaxUint64}}},
			{"two constants", api.ErrBits, num(1), num(1)},
			{"two noughts", api.ErrBits, zero, zero},
			{"unlike widths", api.ErrBits, at("ip", "ttl"), at("ip", "src")},
			{"unlike widths, the other way round", api.ErrBits, at("ip", "src"), at("ip", "ttl")},
			{"an A that is not there", api.ErrUnknown, at("ip", "x"), num(1)},
			{"a B that is not there", api.ErrUnknown, num(1), at("ip", "x")},
			{"neither is there", api.ErrUnknown, at("ip", "x"), at("ip", "x")},
			{"a whole header", api.ErrUnknown, at("ip", ""), num(1)},
			{"a parameter as A", api.ErrUnknown, at("", "p"), num(1)},
			{"a parameter as B", api.ErrUnknown, num(1), at("", "p")},
			{"a constant beside a reference in A", api.ErrKind, both, at("ip", "ttl")},
			{"a constant beside a reference in B", api.ErrKind, at("ip", "ttl"), both},
		} {
			checkControl(t, x.what, x.code, when(kind, x.a, x.b))
		}
	}
}
