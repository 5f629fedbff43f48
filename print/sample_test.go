package print_test

import (
	"math"
	"testing"

	"turnout/api"
	"turnout/print"
	"turnout/schema"
	"turnout/syntax"
)

var most = api.Bits{Hi: math.MaxUint64, Lo: math.MaxUint64}

func ref(head, name string) api.Ref { return api.Ref{Head: head, Name: name} }

func n(x uint64) api.Bits { return api.Bits{Lo: x} }

func at(head, name string) api.Operand { return api.Operand{Ref: ref(head, name)} }

func num(x uint64) api.Operand { return api.Operand{Const: n(x)} }

func set(to api.Ref, op int, a, b api.Operand) api.Step {
	return api.Step{Kind: api.StepSet, To: to, Op: op, A: a, B: b}
}

func apply(table string, then ...api.Stage) api.Stage {
	return api.Stage{Kind: api.StageApply, Table: table, Then: then}
}

func when(kind int, a, b api.Operand, then ...api.Stage) api.Stage {
	return api.Stage{Kind: api.StageIf, Test: api.Test{Kind: kind, A: a, B: b}, Then: then}
}

func valid(head string, then ...api.Stage) api.Stage {
	return when(api.TestValid, at(head, ""), api.Operand{}, then...)
}

func exit() api.Stage { return api.Stage{Kind: api.StageExit} }

// or is a stage with an Else.
func or(stage api.Stage, then ...api.Stage) api.Stage {
	stage.Else = then
	return stage
}

// sample is a sound schema with something of everything; each call makes a new one.
func sample() api.Schema {
	return api.Schema{
		Headers: []api.Header{
			{Name: "eth", Fields: []api.Field{{Name: "dst", Width: 48}, {Name: "src", Width: 48}, {Name: "type", Width: 16}}},
			{Name: "ip", Fields: []api.Field{{Name: "ttl", Width: 8}, {Name: "proto", Width: 8}, {Name: "src", Width: 32}, {Name: "check", Width: 16}}},
			{Name: "opt", Fields: []api.Field{{Name: "a", Width: 3}, {Name: "b", Width: 128}, {Name: "c", Width: 5}}},
		},
		Meta: []api.Field{{Name: "port", Width: 9}, {Name: "mark", Width: 32}},
		States: []api.State{
			{Name: "first", Header: "eth", On: ref("eth", "type"), Cases: []api.Case{{Value: n(0x800), Mask: n(0xffff), Next: "second"}, {Value: n(0x10), Mask: n(0xf0), Next: "reject"}}, Next: "accept"},
			{Name: "second", Header: "ip", Next: "third"},
			{Name: "third", Header: "opt", On: ref("meta", "port"), Cases: []api.Case{{Value: n(3), Mask: n(511), Next: "accept"}}, Next: "reject"},
		},
		Actions: []api.Action{
			{Name: "out", Params: []api.Field{{Name: "p", Width: 9}}, Steps: []api.Step{set(ref("meta", "port"), api.OpCopy, at("", "p"), api.Operand{})}},
			{Name: "hop", Params: []api.Field{{Name: "d", Width: 48}, {Name: "m", Width: 32}}, Steps: []api.Step{
				set(ref("ip", "ttl"), api.OpSub, at("ip", "ttl"), num(1)),
				set(ref("eth", "dst"), api.OpOr, num(7), at("", "d")),
				set(ref("meta", "mark"), api.OpXor, at("ip", "src"), at("", "m")),
				{Kind: api.StepSum, To: ref("ip", "check")},
			}},
			{Name: "none", Steps: []api.Step{{Kind: api.StepDrop}}},
			{Name: "grow", Steps: []api.Step{{Kind: api.StepAdd, To: ref("opt", "")}, {Kind: api.StepRemove, To: ref("ip", "")}, {Kind: api.StepAgain}}},
		},
		Tables: []api.Table{
			{Name: "route", Keys: []api.Key{{Ref: ref("ip", "src"), Kind: api.Prefix}, {Ref: ref("ip", "proto"), Kind: api.Exact}}, Actions: []string{"out", "hop", "none"}, Size: 64, Default: api.Call{Action: "none"}},
			{Name: "acl", Keys: []api.Key{{Ref: ref("meta", "port"), Kind: api.Range}, {Ref: ref("eth", "src"), Kind: api.Ternary}}, Actions: []string{"out", "grow"}, Size: 4096, Default: api.Call{Action: "out", Args: []api.Bits{n(511)}}, Fixed: true},
			{Name: "mac", Keys: []api.Key{{Ref: ref("eth", "dst"), Kind: api.Exact}}, Actions: []string{"hop"}, Size: 1, Default: api.Call{Action: "hop", Args: []api.Bits{n(1 << 40), n(2)}}},
		},
		Control: []api.Stage{
			or(valid("ip", or(apply("route", apply("acl"), exit()), exit())), when(api.TestLt, at("meta", "port"), num(511))),
			when(api.TestNe, at("ip", "src"), at("meta", "mark"), apply("mac")),
			exit(),
		},
	}
}

// sampleText is the sample's text, written by hand.
const sampleText = `header eth {
  dst: 48;
  src: 48;
  type: 16;
}
header ip {
  ttl: 8;
  proto: 8;
  src: 32;
  check: 16;
}
header opt {
  a: 3;
  b: 128;
  c: 5;
}
meta {
  port: 9;
  mark: 32;
}
state first {
  take eth;
  on eth.type {
    2048: second;
    16 & 240: reject;
  }
  else accept;
}
state second {
  take ip;
  else third;
}
state third {
  take opt;
  on meta.port {
    3: accept;
  }
  else reject;
}
action out(p: 9) {
  meta.port = p;
}
action hop(d: 48, m: 32) {
  ip.ttl = ip.ttl - 1;
  eth.dst = 7 | d;
  meta.mark = ip.src ^ m;
  sum ip.check;
}
action none() {
  drop;
}
action grow() {
  add opt;
  remove ip;
  again;
}
table route {
  key ip.src prefix;
  key ip.proto exact;
  can out, hop, none;
  size 64;
  default none();
}
table acl {
  key meta.port range;
  key eth.src ternary;
  can out, grow;
  size 4096;
  default out(511) fixed;
}
table mac {
  key eth.dst exact;
  can hop;
  size 1;
  default hop(0x10000000000, 2);
}
control {
  if valid ip {
    apply route {
      apply acl;
      exit;
    } else {
      exit;
    }
  } else {
    if meta.port < 511 {
    }
  }
  if ip.src != meta.mark {
    apply mac;
  }
  exit;
}
`

// sampleThings are the names of the sample's things, in order.
func sampleThings() []string {
	return []string{
		"header eth", "header ip", "header opt", "meta", "state first", "state second", "state third",
		"action out", "action hop", "action none", "action grow", "table route", "table acl", "table mac", "control",
	}
}

// checkSchema holds a schema's text against what it must be.
func checkSchema(t *testing.T, what string, s api.Schema, want string) {
	t.Helper()
	if text, e := print.Schema(s); text != want || e != api.OK {
		t.Errorf("%s: %d\n%s\nwant\n%s", what, e, text, want)
	}
}

// checkThing holds a thing's text against what it must be.
func checkThing(t *testing.T, s api.Schema, thing, want string) {
	t.Helper()
	if text, e := print.Thing(s, thing); text != want || e != api.OK {
		t.Errorf("%q: %d\n%s\nwant\n%s", thing, e, text, want)
	}
}

// refused holds both calls' errors of a schema against what they must be.
func refused(t *testing.T, what string, s api.Schema, thing string, ofSchema, ofThing api.Errno) {
	t.Helper()
	if text, e := print.Schema(s); text != "" || e != ofSchema {
		t.Errorf("%s: Schema: %d %.200q; want %d: %s", what, e, text, ofSchema, short(s))
	}
	if text, e := print.Thing(s, thing); text != "" || e != ofThing {
		t.Errorf("%s: Thing %.200q: %d %.200q; want %d: %s", what, thing, e, text, ofThing, short(s))
	}
}

// read is the schema that a text says.
func read(t *testing.T, text string) api.Schema {
	t.Helper()
	s, f := syntax.Schema(text)
	if f != (api.Fault{}) {
		t.Fatalf("%v: %s", f, text)
	}
	return s
}

// sound gives up, if a schema that must be sound isn't.
func sound(t *testing.T, what string, s api.Schema) {
	t.Helper()
	if e, thing := schema.Check(s); e != api.OK {
		t.Fatalf("%s: not sound: %d %q", what, e, thing)
	}
}
