package syntax_test

import (
	"strings"
	"testing"

	"turnout/api"
)

// P8.1: what each part of a text says

func TestHeaders(t *testing.T) {
	checkSaid(t, "header x { }", api.Schema{Headers: []api.Header{{Name: "x"}}})
	checkSaid(t, "header x{a:1;a:0;b:2147483647;}header x{}", api.Schema{Headers: []api.Header{
		{Name: "x", Fields: []api.Field{{Name: "a", Width: 1}, {Name: "a"}, {Name: "b", Width: 2147483647}}},
		{Name: "x"},
	}})
	checkSaid(t, "meta { a: 0x10; b: 0b11; a: 200; }", api.Schema{Meta: []api.Field{{Name: "a", Width: 16}, {Name: "b", Width: 3}, {Name: "a", Width: 200}}})
	checkSaid(t, "meta { }", api.Schema{})
}

func TestStates(t *testing.T) {
	checkSaid(t, "state s { take x; else t; } state t { take y; else accept; } state s { take x; on meta.m { } else reject; }", api.Schema{States: []api.State{
		{Name: "s", Header: "x", Next: "t"},
		{Name: "t", Header: "y", Next: "accept"},
		{Name: "s", Header: "x", On: ref("meta", "m"), Next: "reject"},
	}})
	checkSaid(t, "state s { take x; on a.b { 1 & 0: accept; 340282366920938463463374607431768211455 & 0xff: reject; 0 & 0b1: s; 1 & 0: s; } else s; }", api.Schema{States: []api.State{
		{Name: "s", Header: "x", On: ref("a", "b"), Cases: []api.Case{
			{Value: n(1), Next: "accept"},
			{Value: most, Mask: n(255), Next: "reject"},
			{Mask: n(1), Next: "s"},
			{Value: n(1), Next: "s"},
		}, Next: "s"},
	}})
}

// TestMasks: a case without a mask has one of the field's width, wherever the field stands.
func TestMasks(t *testing.T) {
	ask := func(head string) string {
		return "state s { take x; on " + head + ".a { 5: accept; 6 & 2: accept; 0: accept; } else reject; }"
	}
	said := func(head string, mask api.Bits) []api.State {
		return []api.State{{Name: "s", Header: "x", On: ref(head, "a"), Cases: []api.Case{
			{Value: n(5), Mask: mask, Next: "accept"},
			{Value: n(6), Mask: n(2), Next: "accept"},
			{Value: n(0), Mask: mask, Next: "accept"},
		}, Next: "reject"}}
	}
	for width, mask := range map[string]api.Bits{
		"0": most, "1": n(1), "2": n(3), "8": n(255), "63": n(1<<63 - 1), "64": n(1<<64 - 1), "65": {Hi: 1, Lo: 1<<64 - 1},
		"100": {Hi: 1<<36 - 1, Lo: 1<<64 - 1}, "127": {Hi: 1<<63 - 1, Lo: 1<<64 - 1}, "128": most, "129": most, "2147483647": most,
	} {
		fields := "{ b: 7; a: " + width + "; a: 9; }"
		for _, text := range []string{"meta " + fields + ask("meta"), ask("meta") + "meta " + fields} {
			checkMasks(t, text, said("meta", mask))
		}
		for _, text := range []string{"header h " + fields + ask("h"), ask("h") + "header h " + fields, "header g { a: 3; } header h " + fields + "header h { a: 4; } meta { a: 5; }" + ask("h")} {
			checkMasks(t, text, said("h", mask))
		}
	}
	checkMasks(t, "header h { b: 3; }"+ask("h"), said("h", most))
	checkMasks(t, "header h { b: 3; } header h { a: 3; }"+ask("h"), said("h", most))
	checkMasks(t, "meta { a: 3; }"+ask("h"), said("h", most))
	checkMasks(t, "header h { a: 3; }"+ask("meta"), said("meta", most))
	two := ask("h") + ask("meta") + "meta { a: 4; } header h { a: 3; }" + ask("h")
	checkMasks(t, two, append(append(said("h", n(7)), said("meta", n(15))...), said("h", n(7))...))
	gap := "state s { take x; else s; } state s { take x; on h.a { } else s; }"
	between := []api.State{{Name: "s", Header: "x", Next: "s"}, {Name: "s", Header: "x", On: ref("h", "a"), Next: "s"}}
	checkMasks(t, gap+"header h { a: 3; }"+ask("h"), append(between, said("h", n(7))...))
}

func checkMasks(t *testing.T, text string, want []api.State) {
	t.Helper()
	s := read(t, text)
	s.Headers, s.Meta = nil, nil
	same(t, text, s, api.Schema{States: want})
}

func TestSteps(t *testing.T) {
	set := func(op int, a, b api.Operand) api.Step {
		return api.Step{Kind: api.StepSet, To: ref("h", "f"), Op: op, A: a, B: b}
	}
	none := api.Operand{}
	for text, want := range map[string]api.Step{
		"h.f = 0;":           set(api.OpCopy, none, none),
		"h.f = 7;":           set(api.OpCopy, num(7), none),
		"h.f = p;":           set(api.OpCopy, at("", "p"), none),
		"h.f = h.f;":         set(api.OpCopy, at("h", "f"), none),
		"h.f = meta.m;":      set(api.OpCopy, at("meta", "m"), none),
		"h.f = p + q;":       set(api.OpAdd, at("", "p"), at("", "q")),
		"h.f = h.g - 1;":     set(api.OpSub, at("h", "g"), num(1)),
		"h.f = 2 & meta.m;":  set(api.OpAnd, num(2), at("meta", "m")),
		"h.f = meta.m | p;":  set(api.OpOr, at("meta", "m"), at("", "p")),
		"h.f = p ^ h.g;":     set(api.OpXor, at("", "p"), at("h", "g")),
		"h.f = 1 + 0;":       set(api.OpAdd, num(1), none),
		"meta.f = p;":        {Kind: api.StepSet, To: ref("meta", "f"), A: at("", "p")},
		"drop;":              {Kind: api.StepDrop},
		"again;":             {Kind: api.StepAgain},
		"add h;":             {Kind: api.StepAdd, To: ref("h", "")},
		"remove h;":          {Kind: api.StepRemove, To: ref("h", "")},
		"sum h.f;":           {Kind: api.StepSum, To: ref("h", "f")},
		"sum meta.f;":        {Kind: api.StepSum, To: ref("meta", "f")},
		"h.f=p^0b1;":         set(api.OpXor, at("", "p"), num(1)),
		"h . f = p . q - r;": set(api.OpSub, at("p", "q"), at("", "r")),
	} {
		checkSaid(t, "action f() { "+text+" }", api.Schema{Actions: []api.Action{{Name: "f", Steps: []api.Step{want}}}})
		checkSaid(t, "action f() { drop; "+text+text+" }", api.Schema{Actions: []api.Action{{Name: "f", Steps: []api.Step{{Kind: api.StepDrop}, want, want}}}})
	}
}

func TestActions(t *testing.T) {
	checkSaid(t, "action f() { }", api.Schema{Actions: []api.Action{{Name: "f"}}})
	checkSaid(t, "action f(a: 1) { } action f(a: 1, b: 0, a: 129) { }", api.Schema{Actions: []api.Action{
		{Name: "f", Params: []api.Field{{Name: "a", Width: 1}}},
		{Name: "f", Params: []api.Field{{Name: "a", Width: 1}, {Name: "b"}, {Name: "a", Width: 129}}},
	}})
}

func TestTables(t *testing.T) {
	checkSaid(t, "table t { can f; size 0; default g(); }", api.Schema{Tables: []api.Table{{Name: "t", Actions: []string{"f"}, Default: api.Call{Action: "g"}}}})
	checkSaid(t, `table t {
		key h.a exact; key meta.b prefix; key h.c ternary; key h.d range; key h.a exact;
		can f, g, f; size 5000; default f(1, 0x20, 340282366920938463463374607431768211455) fixed;
	} table t { key h.a range; can g; size 1; default f(0); }`, api.Schema{Tables: []api.Table{
		{
			Name:    "t",
			Keys:    []api.Key{{Ref: ref("h", "a"), Kind: api.Exact}, {Ref: ref("meta", "b"), Kind: api.Prefix}, {Ref: ref("h", "c"), Kind: api.Ternary}, {Ref: ref("h", "d"), Kind: api.Range}, {Ref: ref("h", "a"), Kind: api.Exact}},
			Actions: []string{"f", "g", "f"}, Size: 5000, Default: api.Call{Action: "f", Args: []api.Bits{n(1), n(32), most}}, Fixed: true,
		},
		{Name: "t", Keys: []api.Key{{Ref: ref("h", "a"), Kind: api.Range}}, Actions: []string{"g"}, Size: 1, Default: api.Call{Action: "f", Args: []api.Bits{{}}}},
	}})
}

func TestStages(t *testing.T) {
	apply := api.Stage{Kind: api.StageApply, Table: "t"}
	exit := api.Stage{Kind: api.StageExit}
	valid := api.Stage{Kind: api.StageIf, Test: api.Test{Kind: api.TestValid, A: at("h", "")}}
	with := func(s api.Stage, then, other []api.Stage) api.Stage {
		s.Then, s.Else = then, other
		return s
	}
	list := func(l ...api.Stage) []api.Stage { return l }
	for text, want := range map[string][]api.Stage{
		"":                           nil,
		"exit; exit;":                list(exit, exit),
		"apply t;":                   list(apply),
		"apply t { }":                list(apply),
		"apply t { } else { }":       list(apply),
		"apply t { exit; }":          list(with(apply, list(exit), nil)),
		"apply t { } else { exit; }": list(with(apply, nil, list(exit))),
		"apply t { exit; apply t; } else { apply t; exit; exit; } exit;": list(with(apply, list(exit, apply), list(apply, exit, exit)), exit),
		"if valid h { }":                                  list(valid),
		"if valid h { } else { exit; }":                   list(with(valid, nil, list(exit))),
		"if valid h { apply t; } apply t;":                list(with(valid, list(apply), nil), apply),
		"if valid h { if valid h { exit; } else { } }":    list(with(valid, list(with(valid, list(exit), nil)), nil)),
		"if valid h { if valid h { } } else { exit; }":    list(with(valid, list(valid), list(exit))),
		"if valid h { } else { if valid h { } exit; }":    list(with(valid, nil, list(valid, exit))),
		"if valid h { apply t { apply t { exit; } } }":    list(with(valid, list(with(apply, list(with(apply, list(exit), nil)), nil)), nil)),
		"apply t { } apply t { } else { } apply t; exit;": list(apply, apply, apply, exit),
	} {
		checkSaid(t, "control { "+text+" }", api.Schema{Control: want})
	}
}

func TestTests(t *testing.T) {
	for sign, kind := range map[string]int{"==": api.TestEq, "!=": api.TestNe, "<": api.TestLt, "<=": api.TestLe} {
		for a, left := range map[string]api.Operand{"0": {}, "7": num(7), "p": at("", "p"), "h.f": at("h", "f"), "meta.m": at("meta", "m")} {
			for b, right := range map[string]api.Operand{"0": {}, "8": num(8), "q": at("", "q"), "h.g": at("h", "g"), "meta.o": at("meta", "o")} {
				checkSaid(t, "control { if "+a+sign+b+" { } }", api.Schema{Control: []api.Stage{{Kind: api.StageIf, Test: api.Test{Kind: kind, A: left, B: right}}}})
			}
		}
	}
}

// TestMany: of nothing there is too much for a text.
func TestMany(t *testing.T) {
	s := read(t, strings.Repeat("header x { a: 1; } ", 1000)+strings.Repeat("action f() { } ", 1000))
	if len(s.Headers) != 1000 || len(s.Actions) != 1000 {
		t.Errorf("%d headers, %d actions", len(s.Headers), len(s.Actions))
	}
	s = read(t, "header x { "+strings.Repeat("a: 1; ", 5000)+"} control { "+strings.Repeat("exit; ", 5000)+" }")
	if len(s.Headers[0].Fields) != 5000 || len(s.Control) != 5000 {
		t.Errorf("%d fields, %d stages", len(s.Headers[0].Fields), len(s.Control))
	}
	s = read(t, "state s { take x; on a.b { "+strings.Repeat("1: s; ", 10000)+"} else s; }")
	if len(s.States[0].Cases) != 10000 || s.States[0].Cases[9999].Mask != most {
		t.Errorf("%d cases", len(s.States[0].Cases))
	}
}
