package schema_test

import (
	"strconv"
	"testing"

	"turnout/api"
	"turnout/schema"
)

func ref(head, name string) api.Ref { return api.Ref{Head: head, Name: name} }

func n(x uint64) api.Bits { return api.Bits{Lo: x} }

func at(head, name string) api.Operand { return api.Operand{Ref: ref(head, name)} }

func num(x uint64) api.Operand { return api.Operand{Const: n(x)} }

func set(to api.Ref, op int, a, b api.Operand) api.Step {
	return api.Step{Kind: api.StepSet, To: to, Op: op, A: a, B: b}
}

func apply(table string, then ...api.Stage) api.Stage {
	return api.Stage{Kind: api.StageApply, Table: table, Then: then}
}

func when(kind int, a, b api.Operand, then ...api.Stage) api.Stage {
	return api.Stage{Kind: api.StageIf, Test: api.Test{Kind: kind, A: a, B: b}, Then: then}
}

func valid(head string, then ...api.Stage) api.Stage {
	return when(api.TestValid, at(head, ""), api.Operand{}, then...)
}

func exit() api.Stage { return api.Stage{Kind: api.StageExit} }

// or is a stage with an Else.
func or(stage api.Stage, then ...api.Stage) api.Stage {
	stage.Else = then
	return stage
}

// sample is a sound schema with something of everything; each call makes a new one.
func sample() api.Schema {
	return api.Schema{
		Headers: []api.Header{
			{Name: "eth", Fields: []api.Field{{Name: "dst", Width: 48}, {Name: "src", Width: 48}, {Name: "type", Width: 16}}},
			{Name: "ip", Fields: []api.Field{{Name: "ttl", Width: 8}, {Name: "proto", Width: 8}, {Name: "src", Width: 32}, {Name: "check", Width: 16}}},
			{Name: "opt", Fields: []api.Field{{Name: "a", Width: 3}, {Name: "b", Width: 128}, {Name: "c", Width: 5}}},
		},
		Meta: []api.Field{{Name: "port", Width: 9}, {Name: "mark", Width: 32}},
		States: []api.State{
			{Name: "first", Header: "eth", On: ref("eth", "type"), Cases: []api.Case{{Value: n(0x800), Mask: n(0xffff), Next: "second"}, {Value: n(0x10), Mask: n(0xf0), Next: "reject"}}, Next: "accept"},
			{Name: "second", Header: "ip", Next: "third"},
			{Name: "third", Header: "opt", On: ref("meta", "port"), Cases: []api.Case{{Value: n(3), Mask: n(511), Next: "accept"}}, Next: "reject"},
		},
		Actions: []api.Action{
			{Name: "out", Params: []api.Field{{Name: "p", Width: 9}}, Steps: []api.Step{set(ref("meta", "port"), api.OpCopy, at("", "p"), api.Operand{})}},
			{Name: "hop", Params: []api.Field{{Name: "d", Width: 48}, {Name: "m", Width: 32}}, Steps: []api.Step{
				set(ref("ip", "ttl"), api.OpSub, at("ip", "ttl"), num(1)),
				set(ref("eth", "dst"), api.OpOr, num(7), at("", "d")),
				set(ref("meta", "mark"), api.OpXor, at("ip", "src"), at("", "m")),
				{Kind: api.StepSum, To: ref("ip", "check")},
			}},
			{Name: "none", Steps: []api.Step{{Kind: api.StepDrop}}},
			{Name: "grow", Steps: []api.Step{{Kind: api.StepAdd, To: ref("opt", "")}, {Kind: api.StepRemove, To: ref("ip", "")}, {Kind: api.StepAgain}}},
		},
		Tables: []api.Table{
			{Name: "route", Keys: []api.Key{{Ref: ref("ip", "src"), Kind: api.Prefix}, {Ref: ref("ip", "proto"), Kind: api.Exact}}, Actions: []string{"out", "hop", "none"}, Size: 64, Default: api.Call{Action: "none"}},
			{Name: "acl", Keys: []api.Key{{Ref: ref("meta", "port"), Kind: api.Range}, {Ref: ref("eth", "src"), Kind: api.Ternary}}, Actions: []string{"out", "grow"}, Size: 4096, Default: api.Call{Action: "out", Args: []api.Bits{n(511)}}, Fixed: true},
			{Name: "mac", Keys: []api.Key{{Ref: ref("eth", "dst"), Kind: api.Exact}}, Actions: []string{"hop"}, Size: 1, Default: api.Call{Action: "hop", Args: []api.Bits{n(1), n(2)}}},
		},
		Control: []api.Stage{
			or(valid("ip", or(apply("route", apply("acl"), exit()), exit())), when(api.TestLt, at("meta", "port"), num(511))),
			when(api.TestNe, at("ip", "src"), at("meta", "mark"), apply("mac")),
			exit(),
		},
	}
}

// check holds Check's answer against what it must be.
func check(t *testing.T, what string, s api.Schema, code api.Errno, thing string) {
	t.Helper()
	if e, at := schema.Check(s); e != code || at != thing {
		t.Errorf("%s: %d %.80q; want %d %.80q", what, e, at, code, thing)
	}
}

// A turned is the sample with one thing turned, and what Check must answer of it.
type turned struct {
	what  string
	turn  func(*api.Schema)
	code  api.Errno
	thing string // of a sound one empty
}

func checkTurned(t *testing.T, list []turned) {
	t.Helper()
	for _, x := range list {
		s := sample()
		x.turn(&s)
		check(t, x.what, s, x.code, x.thing)
	}
}

// names are so many names, all unlike.
func names(begin string, count int) []string {
	var list []string
	for i := range count {
		list = append(list, begin+strconv.Itoa(i))
	}
	return list
}

// fields are so many fields of a width.
func fields(count, width int) []api.Field {
	var list []api.Field
	for _, name := range names("f", count) {
		list = append(list, api.Field{Name: name, Width: width})
	}
	return list
}
