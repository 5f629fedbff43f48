package print_test

import (
	"strconv"
	"strings"
	"testing"

	"turnout/api"
	"turnout/print"
)

// lines is a text of lines, each ended.
func lines(list ...string) string {
	if len(list) == 0 {
		return ""
	}
	return strings.Join(list, "\n") + "\n"
}

// P9.3 and 'Lines': the sample has something of everything.
func TestSample(t *testing.T) {
	s := sample()
	sound(t, "the sample", s)
	checkSchema(t, "the sample", s, sampleText)
	checkSchema(t, "the sample, read", read(t, sampleText), sampleText)
}

func TestHeaders(t *testing.T) {
	name := strings.Repeat("n", 32)
	s := api.Schema{
		Headers: []api.Header{{Name: "z", Fields: []api.Field{{Name: "b", Width: 1}, {Name: "a", Width: 127}}}, {Name: name, Fields: []api.Field{{Name: name, Width: 128}}}, {Name: "a", Fields: []api.Field{{Name: "a", Width: 8}}}},
		Meta:    []api.Field{{Name: "z", Width: 128}, {Name: "a", Width: 1}},
	}
	checkSchema(t, "headers", s, lines(
		"header z {", "  b: 1;", "  a: 127;", "}",
		"header "+name+" {", "  "+name+": 128;", "}",
		"header a {", "  a: 8;", "}",
		"meta {", "  z: 128;", "  a: 1;", "}"))
	s.Headers = nil
	checkSchema(t, "metadata alone", s, lines("meta {", "  z: 128;", "  a: 1;", "}"))
}

// TestWidths: an int is written in tens.
func TestWidths(t *testing.T) {
	for width := 1; width <= 128; width++ {
		s := api.Schema{Meta: []api.Field{{Name: "m", Width: width}}}
		checkSchema(t, "width "+strconv.Itoa(width), s, lines("meta {", "  m: "+strconv.Itoa(width)+";", "}"))
		s = api.Schema{Actions: []api.Action{{Name: "f", Params: []api.Field{{Name: "m", Width: width}}}}}
		checkSchema(t, "parameter "+strconv.Itoa(width), s, lines("action f(m: "+strconv.Itoa(width)+") {", "}"))
	}
}

// withHeader is a schema of a header x, whose fields are a of a width and what fills it up, and of the metadata m of the same width.
func withHeader(width int) api.Schema {
	h := api.Header{Name: "x", Fields: []api.Field{{Name: "a", Width: width}}}
	if width%8 > 0 {
		h.Fields = append(h.Fields, api.Field{Name: "rest", Width: 8 - width%8})
	}
	return api.Schema{Headers: []api.Header{h}, Meta: []api.Field{{Name: "m", Width: width}}}
}

func TestStates(t *testing.T) {
	for _, x := range []struct {
		state api.State
		want  []string
	}{
		{api.State{Header: "x", Next: "accept"}, []string{"take x;", "else accept;"}},
		{api.State{Header: "x", Next: "reject"}, []string{"take x;", "else reject;"}},
		{api.State{Header: "x", Next: "t"}, []string{"take x;", "else t;"}},
		{api.State{Header: "x", On: ref("x", "a"), Next: "t"}, []string{"take x;", "on x.a {", "}", "else t;"}},
		{api.State{Header: "x", On: ref("x", "a"), Cases: []api.Case{}, Next: "t"}, []string{"take x;", "on x.a {", "}", "else t;"}},
		{api.State{Header: "x", On: ref("meta", "m"), Cases: []api.Case{{Next: "t"}}, Next: "t"}, []string{"take x;", "on meta.m {", "  0 & 0: t;", "}", "else t;"}},
		{api.State{Header: "x", On: ref("x", "a"), Cases: []api.Case{
			{Value: n(255), Mask: n(255), Next: "accept"}, {Value: n(0), Mask: n(255), Next: "reject"}, {Value: n(1), Mask: n(1), Next: "t"}, {Value: n(0), Mask: n(254), Next: "accept"}, {Value: n(127), Mask: n(127), Next: "reject"},
		}, Next: "accept"}, []string{"take x;", "on x.a {", "  255: accept;", "  0: reject;", "  1 & 1: t;", "  0 & 254: accept;", "  127 & 127: reject;", "}", "else accept;"}},
	} {
		s := withHeader(8)
		x.state.Name = "s"
		s.States = []api.State{x.state, {Name: "t", Header: "x", Next: "accept"}}
		sound(t, "a state", s)
		want := lines("state s {", "  "+strings.Join(x.want, "\n  "), "}")
		checkThing(t, s, "state s", want)
		checkThing(t, s, "state t", lines("state t {", "  take x;", "  else accept;", "}"))
	}
}

// TestMasks: a mask is left out just if it is all ones of the field's own width, be there fields of other widths.
func TestMasks(t *testing.T) {
	for width := 1; width <= 128; width++ {
		all := most
		if width <= 64 {
			all = n(1<<width - 1)
		} else {
			all.Hi = 1<<(width-64) - 1
		}
		for _, on := range []api.Ref{ref("x", "a"), ref("meta", "m")} {
			s := withHeader(width)
			s.Headers = append(s.Headers, api.Header{Name: "y", Fields: []api.Field{{Name: "a", Width: 24}}})
			s.Meta = append(s.Meta, api.Field{Name: "a", Width: 25})
			s.States = []api.State{{Name: "s", Header: "x", On: on, Next: "accept"}}
			want := []string{"state s {", "  take x;", "  on " + on.Head + "." + on.Name + " {"}
			for w := 0; w <= width; w++ {
				mask := api.Bits{}
				if w > 64 {
					mask = api.Bits{Hi: 1<<(w-64) - 1, Lo: 1<<64 - 1}
				} else if w > 0 {
					mask = n(1<<w - 1)
				}
				if w%8 != 0 && w < width-1 {
					continue
				}
				s.States[0].Cases = append(s.States[0].Cases, api.Case{Value: mask, Mask: mask, Next: "accept"})
				line := "    " + modelValue(mask)
				if mask != all {
					line += " & " + modelValue(mask)
				}
				want = append(want, line+": accept;")
			}
			sound(t, "masks", s)
			checkThing(t, s, "state s", lines(append(want, "  }", "  else accept;", "}")...))
		}
	}
}

func TestSteps(t *testing.T) {
	none := api.Operand{}
	to := ref("x", "a")
	for _, x := range []struct {
		step api.Step
		want string
	}{
		{set(to, api.OpCopy, none, none), "x.a = 0;"},
		{set(to, api.OpCopy, num(65535), none), "x.a = 65535;"},
		{set(to, api.OpCopy, at("x", "a"), none), "x.a = x.a;"},
		{set(to, api.OpCopy, at("meta", "m"), none), "x.a = meta.m;"},
		{set(to, api.OpCopy, at("", "p"), none), "x.a = p;"},
		{set(to, api.OpAdd, none, none), "x.a = 0 + 0;"},
		{set(to, api.OpAdd, at("", "p"), num(1)), "x.a = p + 1;"},
		{set(to, api.OpSub, num(2), at("", "q")), "x.a = 2 - q;"},
		{set(to, api.OpAnd, at("x", "a"), at("meta", "m")), "x.a = x.a & meta.m;"},
		{set(to, api.OpOr, at("", "p"), at("", "q")), "x.a = p | q;"},
		{set(to, api.OpXor, at("", "q"), at("", "q")), "x.a = q ^ q;"},
		{set(to, api.OpXor, num(3), num(65535)), "x.a = 3 ^ 65535;"},
		{set(ref("meta", "m"), api.OpSub, at("meta", "m"), at("x", "a")), "meta.m = meta.m - x.a;"},
		{set(ref("meta", "g"), api.OpAnd, api.Operand{Const: most}, num(1<<32)), "meta.g = 0xffffffffffffffffffffffffffffffff & 0x100000000;"},
		{set(ref("meta", "g"), api.OpCopy, api.Operand{Const: api.Bits{Hi: 1}}, none), "meta.g = 0x10000000000000000;"},
		{set(ref("meta", "g"), api.OpCopy, num(1<<32-1), none), "meta.g = 4294967295;"},
		{api.Step{Kind: api.StepDrop}, "drop;"},
		{api.Step{Kind: api.StepAdd, To: ref("x", "")}, "add x;"},
		{api.Step{Kind: api.StepRemove, To: ref("x", "")}, "remove x;"},
		{api.Step{Kind: api.StepSum, To: to}, "sum x.a;"},
		{api.Step{Kind: api.StepAgain}, "again;"},
	} {
		s := withHeader(16)
		s.Meta = append(s.Meta, api.Field{Name: "g", Width: 128})
		params := []api.Field{{Name: "p", Width: 16}, {Name: "q", Width: 16}}
		s.Actions = []api.Action{{Name: "f", Params: params, Steps: []api.Step{x.step}}, {Name: "g", Params: params, Steps: []api.Step{{Kind: api.StepDrop}, x.step, x.step, {Kind: api.StepAgain}}}}
		sound(t, x.want, s)
		checkThing(t, s, "action f", lines("action f(p: 16, q: 16) {", "  "+x.want, "}"))
		checkThing(t, s, "action g", lines("action g(p: 16, q: 16) {", "  drop;", "  "+x.want, "  "+x.want, "  again;", "}"))
	}
}

func TestParams(t *testing.T) {
	var list []api.Field
	text := ""
	for count := range 9 {
		s := api.Schema{Actions: []api.Action{{Name: "f", Params: list}}}
		checkSchema(t, strconv.Itoa(count), s, lines("action f("+text+") {", "}"))
		list = append(list, api.Field{Name: "p" + strconv.Itoa(count), Width: 1 + count})
		if count > 0 {
			text += ", "
		}
		text += "p" + strconv.Itoa(count) + ": " + strconv.Itoa(1+count)
	}
}

func TestTables(t *testing.T) {
	key := func(head, name string, kind int) api.Key { return api.Key{Ref: ref(head, name), Kind: kind} }
	for _, x := range []struct {
		table api.Table
		want  []string
	}{
		{api.Table{Keys: []api.Key{key("x", "a", api.Exact)}, Actions: []string{"g"}, Size: 1, Default: api.Call{Action: "g"}}, []string{"key x.a exact;", "can g;", "size 1;", "default g();"}},
		{api.Table{Keys: []api.Key{key("x", "a", api.Prefix)}, Actions: []string{"g", "f"}, Size: 10, Default: api.Call{Action: "g", Args: []api.Bits{}}, Fixed: true}, []string{"key x.a prefix;", "can g, f;", "size 10;", "default g() fixed;"}},
		{api.Table{Keys: []api.Key{key("meta", "m", api.Ternary)}, Actions: []string{"h", "g", "f"}, Size: 4096, Default: api.Call{Action: "f", Args: []api.Bits{n(0), most}}}, []string{"key meta.m ternary;", "can h, g, f;", "size 4096;", "default f(0, 0xffffffffffffffffffffffffffffffff);"}},
		{api.Table{Keys: []api.Key{key("meta", "m", api.Range), key("x", "a", api.Exact), key("x", "a", api.Ternary), key("x", "a", api.Exact)}, Actions: []string{"f", "h"}, Size: 999, Default: api.Call{Action: "h", Args: []api.Bits{n(1 << 32)}}, Fixed: true}, []string{"key meta.m range;", "key x.a exact;", "key x.a ternary;", "key x.a exact;", "can f, h;", "size 999;", "default h(0x100000000) fixed;"}},
	} {
		s := withHeader(16)
		s.Actions = []api.Action{{Name: "f", Params: []api.Field{{Name: "a", Width: 1}, {Name: "b", Width: 128}}}, {Name: "g"}, {Name: "h", Params: []api.Field{{Name: "a", Width: 33}}}}
		x.table.Name = "t"
		s.Tables = []api.Table{x.table}
		sound(t, "a table", s)
		checkThing(t, s, "table t", lines("table t {", "  "+strings.Join(x.want, "\n  "), "}"))
	}
}

func TestStages(t *testing.T) {
	for _, x := range []struct {
		control []api.Stage
		want    []string
	}{
		{[]api.Stage{exit()}, []string{"exit;"}},
		{[]api.Stage{exit(), exit(), apply("t"), exit()}, []string{"exit;", "exit;", "apply t;", "exit;"}},
		{[]api.Stage{apply("t")}, []string{"apply t;"}},
		{[]api.Stage{{Kind: api.StageApply, Table: "t", Then: []api.Stage{}, Else: []api.Stage{}}}, []string{"apply t;"}},
		{[]api.Stage{apply("t", exit())}, []string{"apply t {", "  exit;", "}"}},
		{[]api.Stage{or(apply("t"), exit())}, []string{"apply t {", "} else {", "  exit;", "}"}},
		{[]api.Stage{or(apply("t", exit()), exit(), exit())}, []string{"apply t {", "  exit;", "} else {", "  exit;", "  exit;", "}"}},
		{[]api.Stage{valid("x")}, []string{"if valid x {", "}"}},
		{[]api.Stage{{Kind: api.StageIf, Test: valid("x").Test, Then: []api.Stage{}, Else: []api.Stage{}}}, []string{"if valid x {", "}"}},
		{[]api.Stage{or(valid("x"), exit())}, []string{"if valid x {", "} else {", "  exit;", "}"}},
		{[]api.Stage{valid("x", exit())}, []string{"if valid x {", "  exit;", "}"}},
		{[]api.Stage{valid("x", valid("x", valid("x")))}, []string{"if valid x {", "  if valid x {", "    if valid x {", "    }", "  }", "}"}},
		{[]api.Stage{or(valid("x", or(valid("x"), exit())), or(valid("x"), exit())), apply("u")}, []string{
			"if valid x {", "  if valid x {", "  } else {", "    exit;", "  }", "} else {", "  if valid x {", "  } else {", "    exit;", "  }", "}", "apply u;",
		}},
		{[]api.Stage{apply("u", apply("t", exit()), exit()), exit()}, []string{"apply u {", "  apply t {", "    exit;", "  }", "  exit;", "}", "exit;"}},
		{[]api.Stage{when(api.TestEq, at("x", "a"), num(0))}, []string{"if x.a == 0 {", "}"}},
		{[]api.Stage{when(api.TestNe, num(0), at("x", "a"))}, []string{"if 0 != x.a {", "}"}},
		{[]api.Stage{when(api.TestLt, at("meta", "m"), at("x", "a"))}, []string{"if meta.m < x.a {", "}"}},
		{[]api.Stage{when(api.TestLe, at("meta", "m"), at("meta", "m"))}, []string{"if meta.m <= meta.m {", "}"}},
		{[]api.Stage{when(api.TestLe, num(1<<33-1), at("meta", "m"), exit())}, []string{"if 0x1ffffffff <= meta.m {", "  exit;", "}"}},
	} {
		s := withHeader(40)
		s.Actions = []api.Action{{Name: "f"}}
		for _, name := range []string{"t", "u"} {
			s.Tables = append(s.Tables, api.Table{Name: name, Keys: []api.Key{{Ref: ref("x", "a"), Kind: api.Exact}}, Actions: []string{"f"}, Size: 1, Default: api.Call{Action: "f"}})
		}
		s.Control = x.control
		sound(t, x.want[0], s)
		checkThing(t, s, "control", lines("control {", "  "+strings.Join(x.want, "\n  "), "}"))
	}
}

// TestDeepest: a stage stands in two blanks for each brace that is open.
func TestDeepest(t *testing.T) {
	for depth := 1; depth <= api.MaxDeep; depth++ {
		for _, inElse := range []bool{false, true} {
			stage := exit()
			var above, below []string
			for d := range depth - 1 {
				in := strings.Repeat("  ", d+1)
				above = append(above, in+"if valid x {")
				below = append([]string{in + "}"}, below...)
				if inElse {
					above = append(above, in+"} else {")
					stage = or(valid("x"), stage)
				} else {
					stage = valid("x", stage)
				}
			}
			s := withHeader(8)
			s.Control = []api.Stage{stage}
			sound(t, "deep", s)
			want := append([]string{"control {"}, above...)
			want = append(want, strings.Repeat("  ", depth)+"exit;")
			checkThing(t, s, "control", lines(append(append(want, below...), "}")...))
		}
	}
}

// TestBlanks: what the chapter says of a line's blanks holds of every line.
func TestBlanks(t *testing.T) {
	text, _ := print.Schema(sample())
	for _, line := range strings.Split(strings.TrimSuffix(text, "\n"), "\n") {
		inner := strings.TrimLeft(line, " ")
		for _, wrong := range []string{"  ", " ;", " :", " ,", " .", " (", " )", "( ", ". ", "\t", "\r"} {
			if strings.Contains(inner, wrong) {
				t.Errorf("%q has %q", line, wrong)
			}
		}
		if end := line[len(line)-1:]; !strings.Contains("{};", end) {
			t.Errorf("%q ends in %q", line, end)
		}
		if strings.Count(line, "{") > 1 || strings.Count(line, "}") > 1 || strings.Count(line, ";") > 1 {
			t.Errorf("%q is more than a line", line)
		}
	}
}
