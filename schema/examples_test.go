package schema_test

import (
	"strings"
	"testing"

	"turnout/api"
	"turnout/schema"
)

// The chapter's examples: the headers eth and ip, and the metadata port.

func theirs() api.Schema {
	s := sample()
	return api.Schema{Headers: s.Headers[:2], Meta: s.Meta[:1]}
}

func TestExamplesOfHeaders(t *testing.T) {
	with := func(h api.Header) api.Schema {
		s := theirs()
		s.Headers = append([]api.Header{h}, s.Headers[1:]...)
		return s
	}
	long := strings.Repeat("h", 33)
	check(t, "the empty one", api.Schema{}, api.OK, "")
	check(t, "Eth", with(api.Header{Name: "Eth", Fields: fields(1, 8)}), api.ErrName, "header Eth")
	check(t, "meta", with(api.Header{Name: "meta", Fields: fields(1, 8)}), api.ErrName, "header meta")
	check(t, "33 bytes", with(api.Header{Name: long, Fields: fields(1, 8)}), api.ErrName, "header "+long)
	check(t, "no fields", with(api.Header{Name: "x"}), api.ErrMany, "header x")
	check(t, "0 bits", with(api.Header{Name: "x", Fields: fields(1, 0)}), api.ErrBits, "header x")
	check(t, "4 bits", with(api.Header{Name: "x", Fields: fields(1, 4)}), api.ErrBits, "header x")
}

func TestExamplesOfStates(t *testing.T) {
	s := theirs()
	s.States = []api.State{{Name: "s", Header: "eth", On: ref("eth", "type"), Cases: []api.Case{{Value: n(0x800), Mask: n(0xff), Next: "accept"}}, Next: "accept"}}
	check(t, "outside of the mask", s, api.ErrBits, "state s")
	s.States = []api.State{{Name: "s", Header: "eth", Next: "t"}, {Name: "t", Header: "ip", Next: "s"}}
	check(t, "round", s, api.ErrLoop, "state s")
}

func TestExamplesOfActions(t *testing.T) {
	s := theirs()
	port := set(ref("meta", "port"), api.OpCopy, at("", "p"), api.Operand{})
	s.Actions = []api.Action{{Name: "f", Params: []api.Field{{Name: "p", Width: 9}}, Steps: []api.Step{port}}}
	check(t, "f(p 9)", s, api.OK, "")
	s.Actions = append(s.Actions, api.Action{Name: "g", Params: []api.Field{{Name: "p", Width: 8}}, Steps: []api.Step{port}})
	check(t, "g(p 8)", s, api.ErrBits, "action g")
	for _, x := range []struct {
		what string
		step api.Step
		code api.Errno
	}{
		{"ip.ttl - 1", set(ref("ip", "ttl"), api.OpSub, at("ip", "ttl"), num(1)), api.OK},
		{"256", set(ref("ip", "ttl"), api.OpCopy, num(256), api.Operand{}), api.ErrBits},
		{"sum ip.check", api.Step{Kind: api.StepSum, To: ref("ip", "check")}, api.OK},
		{"sum ip.ttl", api.Step{Kind: api.StepSum, To: ref("ip", "ttl")}, api.ErrBits},
		{"sum meta.port", api.Step{Kind: api.StepSum, To: ref("meta", "port")}, api.ErrUnknown},
	} {
		s.Actions = []api.Action{{Name: "f", Steps: []api.Step{x.step}}}
		thing := ""
		if x.code != api.OK {
			thing = "action f"
		}
		check(t, x.what, s, x.code, thing)
	}
}

func TestExamplesOfTables(t *testing.T) {
	s := theirs()
	s.Actions = []api.Action{{Name: "f"}, {Name: "g"}}
	keys := []api.Key{{Ref: ref("ip", "src"), Kind: api.Prefix}, {Ref: ref("ip", "proto"), Kind: api.Exact}}
	s.Tables = []api.Table{{Name: "t", Keys: keys, Actions: []string{"f"}, Size: 1, Default: api.Call{Action: "f"}}}
	check(t, "a prefix and an exact one", s, api.OK, "")
	s.Control = []api.Stage{apply("t"), apply("t")}
	check(t, "apply t; apply t", s, api.ErrTwice, "control")
	keys[1].Kind = api.Ternary
	check(t, "a prefix and a ternary", s, api.ErrKind, "table t")
	keys[1].Kind = api.Exact
	s.Tables[0].Default.Action = "g"
	check(t, "can f, default g()", s, api.ErrAction, "table t")
}

func TestExamplesOfControls(t *testing.T) {
	s := theirs()
	for _, x := range []api.Stage{
		when(api.TestEq, num(1), num(1)),
		when(api.TestEq, at("ip", "ttl"), num(256)),
		when(api.TestLt, at("ip", "ttl"), at("ip", "src")),
	} {
		s.Control = []api.Stage{x}
		check(t, "if", s, api.ErrBits, "control")
	}
	s.Control = []api.Stage{apply("a", apply("b"), exit()), apply("c")}
	if got := schema.Meets(s); got != 2 {
		t.Errorf("Meets: %d", got)
	}
}

func TestExamplesOfWidths(t *testing.T) {
	for r, want := range map[api.Ref]int{ref("ip", "src"): 32, ref("meta", "port"): 9, ref("meta", "x"): 0, {}: 0} {
		if got := schema.Width(theirs(), r); got != want {
			t.Errorf("Width of %v: %d; want %d", r, got, want)
		}
	}
}
