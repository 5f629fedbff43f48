package pipe_test

import (
	"fmt"
	"math/big"
	"strconv"
	"strings"
	"testing"

	"turnout/api"
	"turnout/pipe"
	"turnout/wire"
)

// steps is a schema with actions of all kinds of steps. None of them stands in a table but the last one.
const steps = `
header h { a: 8; b: 8; c: 16; }
header g { x: 4; y: 12; z: 16; }
header f { b: 8; }
meta { a: 8; m: 8; w: 16; }
action nothing() { }
action swap() { h.a = h.b; h.b = h.a; }
action both(b: 8, a: 8) { h.a = a; h.b = b; meta.m = a + b; }
action mine(p: 16) { g.z = p; meta.w = g.z; }
action fill() { add g; }
action clear() { remove g; }
action anew() { remove g; add g; g.y = 5; remove h; }
action total() { sum h.c; }
action totals() { sum g.z; g.x = 1; sum g.z; meta.w = g.z; }
action out() { drop; h.a = 7; drop; }
action round() { again; meta.m = 9; again; }
action end() { again; drop; }
action named() { f.b = h.b; meta.a = h.a; h.b = meta.a; h.c = 0xffff; }
table t { key h.a exact; can end; size 1; default end(); }
`

// packet is one of steps: the heads that are there, the metadata 1 2 3, and a rest.
func packet(heads ...api.Filled) api.Packet {
	return api.Packet{Heads: heads, Meta: ns(1, 2, 3), Rest: "rest"}
}

// withMeta is a packet with other metadata.
func withMeta(k api.Packet, meta ...uint64) api.Packet {
	k.Meta = ns(meta...)
	return k
}

// P16.2

// TestSteps: what each kind of step does, one behind the other, where its header is there and where it is not.
func TestSteps(t *testing.T) {
	p := ready(t, schemaOf(t, steps))
	h, g := head("h", 10, 20, 30), head("g", 1, 2, 3)
	for what, x := range map[string]struct {
		c           api.Call
		k, want     api.Packet
		drop, again bool
	}{
		"no steps":                {c: call("nothing"), k: packet(h, g), want: packet(h, g)},
		"no steps, no headers":    {c: call("nothing"), k: packet(), want: packet()},
		"one behind the other":    {c: call("swap"), k: packet(h), want: packet(head("h", 20, 20, 30))},
		"of no header":            {c: call("swap"), k: packet(g), want: packet(g)},
		"arguments by place":      {c: call("both", 200, 100), k: packet(h), want: withMeta(packet(head("h", 100, 200, 30)), 1, 44, 3)},
		"no header, metadata":     {c: call("both", 200, 100), k: packet(), want: withMeta(packet(), 1, 44, 3)},
		"set and read":            {c: call("mine", 0xabcd), k: packet(g), want: withMeta(packet(head("g", 1, 2, 0xabcd)), 1, 2, 0xabcd)},
		"not set, read as 0":      {c: call("mine", 0xabcd), k: packet(h), want: withMeta(packet(h), 1, 2, 0)},
		"added":                   {c: call("fill"), k: packet(h), want: packet(h, head("g", 0, 0, 0))},
		"added ahead of others":   {c: call("fill"), k: packet(head("f", 1)), want: packet(head("g", 0, 0, 0), head("f", 1))},
		"added again":             {c: call("fill"), k: packet(h, g), want: packet(h, head("g", 0, 0, 0))},
		"removed":                 {c: call("clear"), k: packet(h, g), want: packet(h)},
		"removed, was not there":  {c: call("clear"), k: packet(h), want: packet(h)},
		"removed, added, set":     {c: call("anew"), k: packet(h, g), want: packet(head("g", 0, 5, 0))},
		"summed":                  {c: call("total"), k: packet(h), want: packet(head("h", 10, 20, 0xffff-0x0a14))},
		"summed, not there":       {c: call("total"), k: packet(g), want: packet(g)},
		"summed twice":            {c: call("totals"), k: packet(head("g", 9, 0x123, 77)), want: withMeta(packet(head("g", 1, 0x123, 0xffff-0x1123)), 1, 2, 0xffff-0x1123)},
		"summed twice, not there": {c: call("totals"), k: packet(h), want: withMeta(packet(h), 1, 2, 0)},
		"dropped, and set":        {c: call("out"), k: packet(h), want: packet(head("h", 7, 20, 30)), drop: true},
		"again, and set":          {c: call("round"), k: packet(h), want: withMeta(packet(h), 1, 9, 3), again: true},
		"again and dropped":       {c: call("end"), k: packet(h), want: packet(h), drop: true, again: true},
		"names alike":             {c: call("named"), k: packet(h, head("f", 5)), want: withMeta(packet(head("h", 10, 10, 0xffff), head("f", 20)), 10, 2, 3)},
	} {
		t.Run(what, func(t *testing.T) { checkAct(t, p, x.c, x.k, x.want, x.drop, x.again) })
	}
}

// TestActRefused: the errors, and which of them comes first.
func TestActRefused(t *testing.T) {
	p := ready(t, schemaOf(t, steps))
	h := head("h", 1, 2, 3)
	for what, k := range map[string]api.Packet{
		"zero":               {},
		"too few values":     packet(head("h", 1, 2)),
		"too many values":    packet(head("h", 1, 2, 3, 4)),
		"one that is great":  packet(head("h", 1, 256, 3)),
		"no such header":     packet(head("e", 1)),
		"twice":              packet(h, h),
		"out of order":       packet(head("g", 1, 2, 3), h),
		"too few metadata":   withMeta(packet(h), 1, 2),
		"too many metadata":  withMeta(packet(h), 1, 2, 3, 4),
		"metadata too great": withMeta(packet(h), 256, 2, 3),
	} {
		if wire.Right(schemaOf(t, steps), k) != api.ErrPacket {
			t.Fatalf("%s: it is right", what)
		}
		for _, c := range []api.Call{call("nothing"), call("x"), call("both")} {
			checkNoAct(t, p, c, k, api.ErrPacket)
		}
	}
	for _, name := range []string{"", "x", "h", "t", "meta", "Nothing", "both ", strings.Repeat("both", 1000)} {
		checkNoAct(t, p, call(name), packet(h), api.ErrAction)
		checkNoAct(t, p, call(name, 256, 256), packet(h), api.ErrAction)
	}
	for _, c := range []api.Call{
		call("nothing", 0), call("both"), call("both", 1), call("both", 1, 2, 3), call("both", 256, 2), call("both", 1, 256),
		call("mine", 1<<16), {Action: "mine", Args: []api.Bits{{Hi: 1}}}, {Action: "both", Args: []api.Bits{most, most}},
	} {
		checkNoAct(t, p, c, packet(h), api.ErrArgs)
	}
	checkAct(t, p, call("both", 255, 255), packet(h), withMeta(packet(head("h", 255, 255, 3)), 1, 254, 3), false, false)
	var none *pipe.Pipe
	checkNoAct(t, none, call("nothing"), packet(h), api.ErrArg)
	checkNoAct(t, none, call("x"), api.Packet{}, api.ErrArg)
}

// TestOperations: what each operation makes of values of all kinds of widths; each operand a constant, an argument, a field of a header, and one of the metadata.
func TestOperations(t *testing.T) {
	for _, width := range []int{1, 2, 7, 8, 16, 31, 32, 33, 63, 64, 65, 100, 127, 128} {
		for op := api.OpCopy; op <= api.OpXor; op++ {
			values := edges(width)
			for i, a := range values {
				for k, b := range values {
					checkOperation(t, width, op, a, b, (i+k)%4, (i+3*k)%4)
				}
			}
		}
	}
}

// edges are some values of a width.
func edges(width int) []api.Bits {
	top := bits(new(big.Int).Sub(power(width), big.NewInt(1)))
	list := []api.Bits{{}, {Lo: 1}, top}
	if width > 1 {
		list = append(list, bits(power(width-1)), bits(new(big.Int).Sub(power(width), big.NewInt(2))))
	}
	if width > 64 {
		list = append(list, api.Bits{Lo: most.Lo}, api.Bits{Hi: top.Hi}, api.Bits{Hi: 1})
	}
	return list
}

// power is 2 to the power of something.
func power(of int) *big.Int { return new(big.Int).Lsh(big.NewInt(1), uint(of)) }

func number(a api.Bits) *big.Int {
	x := new(big.Int).SetUint64(a.Hi)
	return x.Add(x.Lsh(x, 64), new(big.Int).SetUint64(a.Lo))
}

func bits(x *big.Int) api.Bits {
	low := new(big.Int).And(x, new(big.Int).SetUint64(most.Lo))
	return api.Bits{Hi: new(big.Int).Rsh(x, 64).Uint64(), Lo: low.Uint64()}
}

// worked is what an operation makes of two values of a width.
func worked(op int, a, b api.Bits, width int) api.Bits {
	x, y, z := number(a), number(b), new(big.Int)
	switch op {
	case api.OpCopy:
		z = x
	case api.OpAdd:
		z.Mod(z.Add(x, y), power(width))
	case api.OpSub:
		z.Mod(z.Sub(x, y), power(width))
	case api.OpAnd:
		z.And(x, y)
	case api.OpOr:
		z.Or(x, y)
	case api.OpXor:
		z.Xor(x, y)
	}
	return bits(z)
}

// checkOperation does one operation on operands of these kinds: 0 a constant, 1 an argument, 2 a field of a header, 3 one of the metadata.
func checkOperation(t *testing.T, width, op int, a, b api.Bits, kindA, kindB int) {
	t.Helper()
	wide := func(names ...string) []api.Field {
		var list []api.Field
		for _, name := range names {
			list = append(list, api.Field{Name: name, Width: width})
		}
		return list
	}
	s := api.Schema{
		Headers: []api.Header{{Name: "h", Fields: wide("a", "b", "to", "x4", "x5", "x6", "x7", "x8")}},
		Meta:    wide("a", "b"),
	}
	operand := func(kind int, name string, a api.Bits) api.Operand {
		return []api.Operand{{Const: a}, {Ref: ref("", name)}, {Ref: ref("h", name)}, {Ref: ref("meta", name)}}[kind]
	}
	step := api.Step{Kind: api.StepSet, To: ref("h", "to"), Op: op, A: operand(kindA, "a", a)}
	if op != api.OpCopy {
		step.B = operand(kindB, "b", b)
	}
	s.Actions = []api.Action{{Name: "f", Params: wide("b", "a"), Steps: []api.Step{step}}}
	other := bits(new(big.Int).Sub(power(width), big.NewInt(1)))
	k := api.Packet{Heads: []api.Filled{{Name: "h", Values: make([]api.Bits, 8)}}, Meta: make([]api.Bits, 2)}
	args := []api.Bits{other, other}
	for i, x := range []struct {
		kind int
		a    api.Bits
	}{{kindA, a}, {kindB, b}} {
		k.Heads[0].Values[i], k.Meta[i] = other, other
		switch x.kind {
		case 1:
			args[1-i] = x.a
		case 2:
			k.Heads[0].Values[i] = x.a
		case 3:
			k.Meta[i] = x.a
		}
	}
	want := plain(k)
	want.Heads[0].Values[2] = worked(op, a, b, width)
	checkAct(t, ready(t, s), api.Call{Action: "f", Args: args}, k, want, false, false)
	if t.Failed() {
		t.Fatalf("the operation %d of %v and %v in %d bits", op, a, b, width)
	}
}

// TestOperandsOfNoHeader: an operand whose header is not there counts as 0.
func TestOperandsOfNoHeader(t *testing.T) {
	signs := []string{"+", "-", "&", "|", "^"}
	text := "header g { x: 8; } meta { m: 8; } action o0() { meta.m = g.x; }"
	for i, sign := range signs {
		text += fmt.Sprintf(" action o%d() { meta.m = 5 %s g.x; } action r%d() { meta.m = g.x %s 5; }", i+1, sign, i+1, sign)
	}
	p := ready(t, schemaOf(t, text))
	for op := range 6 {
		name := strconv.Itoa(op)
		k := api.Packet{Meta: ns(77)}
		want := worked(op, n(5), n(0), 8)
		if op == api.OpCopy {
			want = n(0)
		} else {
			checkAct(t, p, call("r"+name), k, api.Packet{Meta: []api.Bits{worked(op, n(0), n(5), 8)}}, false, false)
		}
		checkAct(t, p, call("o"+name), k, api.Packet{Meta: []api.Bits{want}}, false, false)
	}
}

// TestActLong: Act looks at no packet's length.
func TestActLong(t *testing.T) {
	p := ready(t, schemaOf(t, steps))
	k := packet(head("h", 1, 2, 3))
	k.Rest = strings.Repeat("x", 2*api.MaxPacket)
	want := plain(k)
	want.Heads = append(want.Heads, head("g", 0, 0, 0))
	checkAct(t, p, call("fill"), k, want, false, false)
}
