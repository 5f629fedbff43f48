package print_test

import (
	"strings"
	"testing"

	"turnout/api"
	"turnout/print"
)

// P9.4: the things of the sample, by their names, are its text.
func TestThings(t *testing.T) {
	s := sample()
	rest := sampleText
	for _, thing := range sampleThings() {
		end := strings.Index(rest, "\n}\n") + len("\n}\n")
		checkThing(t, s, thing, rest[:end])
		rest = rest[end:]
	}
	if rest != "" {
		t.Errorf("left: %s", rest)
	}
}

// TestUnknown: a thing's name must be just that.
func TestUnknown(t *testing.T) {
	s := sample()
	list := []string{
		"", " ", "header", "state", "action", "table", "header ", "state ", "action ", "table ", "eth", "route", "meta.port", "port", "first",
		"header meta", "header first", "header out", "header route", "state eth", "state out", "action eth", "action route", "table eth", "table out", "meta meta", "control control", "meta port", "control route",
		"header e", "header et", "header ethe", "header ETH", "Header eth", "HEADER eth", "header\teth", "header\neth", "header  eth", "headereth", "header eth {", "header eth.dst", "header  ", "header eth ip", "header eth,ip",
		"key", "can", "on", "header eth header ip", "first third", "\xff", "héader eth", strings.Repeat("header eth ", 10000), strings.Repeat("m", 1<<20),
	}
	known := map[string]int{}
	for _, thing := range sampleThings() {
		known[thing]++
	}
	for _, thing := range sampleThings() {
		list = append(list, " "+thing, thing+" ", thing+"\n", thing+"\x00", "\x00"+thing, thing+"x", thing[1:], thing[:len(thing)-1], strings.ToUpper(thing), strings.Replace(thing, " ", "", 1)+" ", strings.Replace(thing, " ", "  ", 1)+" ")
	}
	for _, thing := range list {
		if known[thing] > 0 {
			continue
		}
		if text, e := print.Thing(s, thing); text != "" || e != api.ErrUnknown {
			t.Errorf("%.60q: %d %q", thing, e, text)
		}
	}
}

// TestNotThere: the metadata is a thing only if it has a field, the control only if it has a stage.
func TestNotThere(t *testing.T) {
	for _, s := range []api.Schema{
		{},
		{Headers: []api.Header{}, Meta: []api.Field{}, States: []api.State{}, Actions: []api.Action{}, Tables: []api.Table{}, Control: []api.Stage{}},
		{Actions: []api.Action{{Name: "f"}}},
	} {
		for _, thing := range []string{"meta", "control", "header f", "state f", "table f", "action", "action g", ""} {
			if text, e := print.Thing(s, thing); text != "" || e != api.ErrUnknown {
				t.Errorf("%q: %d %q", thing, e, text)
			}
		}
	}
	s := sample()
	s.Control = nil
	checkSchema(t, "without a control", s, sampleText[:strings.Index(sampleText, "control")])
	refusedThing(t, s, "control")
	s = api.Schema{Control: []api.Stage{exit()}}
	checkSchema(t, "a control alone", s, "control {\n  exit;\n}\n")
	checkThing(t, s, "control", "control {\n  exit;\n}\n")
	refusedThing(t, s, "meta")
	s = api.Schema{Headers: sample().Headers}
	checkSchema(t, "without metadata", s, sampleText[:strings.Index(sampleText, "meta")])
	refusedThing(t, s, "meta")
	refusedThing(t, s, "header meta")
}

func refusedThing(t *testing.T, s api.Schema, thing string) {
	t.Helper()
	if text, e := print.Thing(s, thing); text != "" || e != api.ErrUnknown {
		t.Errorf("%q: %d %q", thing, e, text)
	}
}

// TestAlike: things of unlike kinds may bear one name.
func TestAlike(t *testing.T) {
	s := api.Schema{
		Headers: []api.Header{{Name: "x", Fields: []api.Field{{Name: "x", Width: 8}}}},
		Meta:    []api.Field{{Name: "x", Width: 8}},
		States:  []api.State{{Name: "x", Header: "x", On: ref("x", "x"), Cases: []api.Case{{Mask: n(255), Next: "accept"}}, Next: "reject"}},
		Actions: []api.Action{{Name: "x", Params: []api.Field{{Name: "x", Width: 8}}, Steps: []api.Step{set(ref("x", "x"), api.OpAdd, at("", "x"), at("meta", "x")), set(ref("meta", "x"), api.OpCopy, at("x", "x"), api.Operand{})}}},
		Tables:  []api.Table{{Name: "x", Keys: []api.Key{{Ref: ref("x", "x"), Kind: api.Exact}}, Actions: []string{"x"}, Size: 1, Default: api.Call{Action: "x", Args: []api.Bits{n(3)}}}},
		Control: []api.Stage{valid("x", apply("x"))},
	}
	sound(t, "alike", s)
	checkThing(t, s, "header x", lines("header x {", "  x: 8;", "}"))
	checkThing(t, s, "meta", lines("meta {", "  x: 8;", "}"))
	checkThing(t, s, "state x", lines("state x {", "  take x;", "  on x.x {", "    0: accept;", "  }", "  else reject;", "}"))
	checkThing(t, s, "action x", lines("action x(x: 8) {", "  x.x = x + meta.x;", "  meta.x = x.x;", "}"))
	checkThing(t, s, "table x", lines("table x {", "  key x.x exact;", "  can x;", "  size 1;", "  default x(3);", "}"))
	checkThing(t, s, "control", lines("control {", "  if valid x {", "    apply x;", "  }", "}"))
}
