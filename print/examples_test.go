package print_test

import (
	"strings"
	"testing"

	"turnout/api"
	"turnout/print"
)

// textT is chapter 8's text T; printedT is what the chapter prints of its schema.
const (
	textT = `header eth { dst: 48; src: 48; type: 16; }
meta { port: 9; }
state first { take eth; on eth.type { 0x800: accept; 0x10 & 0xf0: reject; } else accept; }
action out(p: 9) { meta.port = p; }
action none() { drop; }
table t { key eth.dst exact; can out, none; size 64; default none(); }
control { if valid eth { apply t; } else { exit; } }`
	printedT = `header eth {
  dst: 48;
  src: 48;
  type: 16;
}
meta {
  port: 9;
}
state first {
  take eth;
  on eth.type {
    2048: accept;
    16 & 240: reject;
  }
  else accept;
}
action out(p: 9) {
  meta.port = p;
}
action none() {
  drop;
}
table t {
  key eth.dst exact;
  can out, none;
  size 64;
  default none();
}
control {
  if valid eth {
    apply t;
  } else {
    exit;
  }
}
`
)

// The chapter's examples.
func TestExamples(t *testing.T) {
	s := read(t, textT)
	checkSchema(t, "T", s, printedT)
	checkSchema(t, "the empty schema", api.Schema{}, "")
	checkThing(t, s, "meta", "meta {\n  port: 9;\n}\n")
	checkThing(t, s, "action none", "action none() {\n  drop;\n}\n")
	for _, thing := range []string{"table x", "header", "control "} {
		if text, e := print.Thing(s, thing); text != "" || e != api.ErrUnknown {
			t.Errorf("%q: %d %q", thing, e, text)
		}
	}
	for _, x := range []struct {
		a    api.Bits
		want string
	}{
		{n(7), "7"}, {n(4294967295), "4294967295"}, {n(4294967296), "0x100000000"},
		{api.Bits{Hi: 1 << 63}, "0x80000000000000000000000000000000"},
	} {
		if text := print.Value(x.a); text != x.want {
			t.Errorf("Value(%v): %q; want %q", x.a, text, x.want)
		}
	}
	for _, x := range []struct {
		c    api.Call
		want string
		e    api.Errno
	}{
		{api.Call{Action: "out", Args: []api.Bits{n(7), n(1 << 32)}}, "out(7, 0x100000000)", api.OK},
		{api.Call{Action: "none"}, "none()", api.OK},
		{api.Call{Action: "drop"}, "", api.ErrName},
		{api.Call{Action: "f", Args: make([]api.Bits, 9)}, "", api.ErrMany},
	} {
		if text, e := print.Call(x.c); text != x.want || e != x.e {
			t.Errorf("Call(%v): %d %q; want %d %q", x.c, e, text, x.e, x.want)
		}
	}
}

func TestExamplesOfLines(t *testing.T) {
	s := read(t, textT)
	s.Control = []api.Stage{or(apply("t"), exit())}
	checkThing(t, s, "control", "control {\n  apply t {\n  } else {\n    exit;\n  }\n}\n")
	s = read(t, "header a { b: 8; } state s { take a; on a.b { } else accept; } action f() { }")
	checkThing(t, s, "action f", "action f() {\n}\n")
	checkThing(t, s, "state s", "state s {\n  take a;\n  on a.b {\n  }\n  else accept;\n}\n")
}

// TestWhole: DOC.md's schema stands there as it is printed.
func TestWhole(t *testing.T) {
	const whole = `header h {
  a: 8;
  b: 8;
}
state s {
  take h;
  else accept;
}
action to(p: 8) {
  h.b = p;
}
action pass() {
}
action none() {
  drop;
}
table t {
  key h.a exact;
  can to, pass;
  size 2;
  default pass();
}
table u {
  key h.a prefix;
  can to, none;
  size 4;
  default none();
}
control {
  apply t {
  } else {
    apply u;
  }
}
`
	checkSchema(t, "the whole's schema", read(t, whole), whole)
	checkSchema(t, "in one line", read(t, strings.Join(strings.Fields(whole), " ")), whole)
}
