package syntax_test

import (
	"fmt"
	"math"
	"reflect"
	"testing"

	"turnout/api"
	"turnout/schema"
	"turnout/syntax"
)

// textT is the chapter's text T.
const textT = `header eth { dst: 48; src: 48; type: 16; }
meta { port: 9; }
state first { take eth; on eth.type { 0x800: accept; 0x10 & 0xf0: reject; } else accept; }
action out(p: 9) { meta.port = p; }
action none() { drop; }
table t { key eth.dst exact; can out, none; size 64; default none(); }
control { if valid eth { apply t; } else { exit; } }
`

func ref(head, name string) api.Ref { return api.Ref{Head: head, Name: name} }

func n(x uint64) api.Bits { return api.Bits{Lo: x} }

func at(head, name string) api.Operand { return api.Operand{Ref: ref(head, name)} }

func num(x uint64) api.Operand { return api.Operand{Const: n(x)} }

func pos(line, col int) api.Pos { return api.Pos{Line: line, Col: col} }

// most is the value of 128 ones.
var most = api.Bits{Hi: math.MaxUint64, Lo: math.MaxUint64}

// schemaT is what T says.
func schemaT() api.Schema {
	return api.Schema{
		Headers: []api.Header{{Name: "eth", Fields: []api.Field{{Name: "dst", Width: 48}, {Name: "src", Width: 48}, {Name: "type", Width: 16}}}},
		Meta:    []api.Field{{Name: "port", Width: 9}},
		States: []api.State{{Name: "first", Header: "eth", On: ref("eth", "type"), Cases: []api.Case{
			{Value: n(0x800), Mask: n(0xffff), Next: "accept"},
			{Value: n(0x10), Mask: n(0xf0), Next: "reject"},
		}, Next: "accept"}},
		Actions: []api.Action{
			{Name: "out", Params: []api.Field{{Name: "p", Width: 9}}, Steps: []api.Step{{Kind: api.StepSet, To: ref("meta", "port"), A: at("", "p")}}},
			{Name: "none", Steps: []api.Step{{Kind: api.StepDrop}}},
		},
		Tables: []api.Table{{Name: "t", Keys: []api.Key{{Ref: ref("eth", "dst"), Kind: api.Exact}}, Actions: []string{"out", "none"}, Size: 64, Default: api.Call{Action: "none"}}},
		Control: []api.Stage{{
			Kind: api.StageIf,
			Test: api.Test{Kind: api.TestValid, A: at("eth", "")},
			Then: []api.Stage{{Kind: api.StageApply, Table: "t"}},
			Else: []api.Stage{{Kind: api.StageExit}},
		}},
	}
}

// short is a text, cut.
func short(x any) string {
	text := fmt.Sprintf("%+v", x)
	if s, ok := x.(string); ok {
		text = fmt.Sprintf("%q", s)
	}
	return text[:min(len(text), 1000)]
}

// checkSaid holds what a text without a fault says against what it must be.
func checkSaid(t *testing.T, text string, want api.Schema) {
	t.Helper()
	if got, f := syntax.Schema(text); f != (api.Fault{}) || !schema.Same(got, want) {
		t.Errorf("%s: %s, %v; want %s", short(text), short(got), f, short(want))
	}
}

// checkFault holds the fault of a text against what it must be; all three calls tell nothing else.
func checkFault(t *testing.T, text string, code api.Errno, at api.Pos) {
	t.Helper()
	want := api.Fault{Code: code, At: at}
	if s, f := syntax.Schema(text); f != want || !reflect.ValueOf(s).IsZero() {
		t.Errorf("Schema(%s): %v, %s; want %v", short(text), f, short(s), want)
	}
	if s, f := syntax.Sound(text); f != want || !reflect.ValueOf(s).IsZero() {
		t.Errorf("Sound(%s): %v, %s; want %v", short(text), f, short(s), want)
	}
	for _, thing := range kinds {
		if p, ok := syntax.Place(text, thing); ok || p != (api.Pos{}) {
			t.Errorf("Place(%s, %q): %v, %v", short(text), thing, p, ok)
		}
	}
}

// checkPlace holds a thing's place against what it must be; the zero place: there is none.
func checkPlace(t *testing.T, text, thing string, want api.Pos) {
	t.Helper()
	if p, ok := syntax.Place(text, thing); p != want || ok != (want != api.Pos{}) {
		t.Errorf("Place(%s, %s): %v, %v; want %v", short(text), short(thing), p, ok, want)
	}
}

// checkUnsound: the text has no fault, but what it says is not sound.
func checkUnsound(t *testing.T, text string, code api.Errno, at api.Pos) {
	t.Helper()
	if s, f := syntax.Schema(text); f != (api.Fault{}) {
		t.Errorf("Schema(%s): %v, %s", short(text), f, short(s))
	}
	if s, f := syntax.Sound(text); f != (api.Fault{Code: code, At: at}) || !reflect.ValueOf(s).IsZero() {
		t.Errorf("Sound(%s): %v, %s; want %v %v", short(text), f, short(s), code, at)
	}
}

func TestExamples(t *testing.T) {
	checkSaid(t, textT, schemaT())
	if s, f := syntax.Sound(textT); f != (api.Fault{}) || !schema.Same(s, schemaT()) {
		t.Errorf("Sound(T): %v, %s", f, short(s))
	}
	checkPlace(t, textT, "table t", pos(6, 1))
	checkPlace(t, textT, "meta", pos(2, 1))
	checkPlace(t, textT, "state t", api.Pos{})
	checkSaid(t, "", api.Schema{})
	checkFault(t, "control { } control { }", api.ErrSyntax, pos(1, 13))
	checkFault(t, "header eth { dst 48; }", api.ErrSyntax, pos(1, 18))
	checkFault(t, "header eth {", api.ErrEnd, pos(1, 13))
	checkFault(t, "header x { a: 2147483648; }", api.ErrNumber, pos(1, 15))
	checkFault(t, "header x { a: 08; }", api.ErrNumber, pos(1, 15))
	checkFault(t, "table x { size", api.ErrSyntax, pos(1, 11))
	checkSaid(t, "state s { take x; on a.b { 1: accept; } else reject; }", api.Schema{States: []api.State{{
		Name: "s", Header: "x", On: ref("a", "b"), Cases: []api.Case{{Value: n(1), Mask: most, Next: "accept"}}, Next: "reject",
	}}})
	checkUnsound(t, "meta { a: 1; } header x { a: 4; }", api.ErrBits, pos(1, 16))
	checkFault(t, "action f(a: 1, ) { }", api.ErrSyntax, pos(1, 16))
	checkFault(t, "action f() { a.b = 1 + 2 + 3; }", api.ErrSyntax, pos(1, 26))
	checkSaid(t, "control { apply t { exit; } else { } if a.b <= 1 { } }", api.Schema{Control: []api.Stage{
		{Kind: api.StageApply, Table: "t", Then: []api.Stage{{Kind: api.StageExit}}},
		{Kind: api.StageIf, Test: api.Test{Kind: api.TestLe, A: at("a", "b"), B: num(1)}},
	}})
}
