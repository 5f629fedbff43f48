package wire_test

import (
	"strings"
	"testing"

	"turnout/api"
	"turnout/wire"
)

// P10.2

// packets are packets of whole(): those that are right, and those that are not.
func packets() map[string]struct {
	p api.Packet
	e api.Errno
} {
	list := map[string]struct {
		p api.Packet
		e api.Errno
	}{}
	add := func(what string, e api.Errno, change func(p *api.Packet)) {
		p := smallPacket()
		p.Meta = ns(1, 2)
		change(&p)
		list[what] = struct {
			p api.Packet
			e api.Errno
		}{p, e}
	}
	add("two headers", api.OK, func(p *api.Packet) {})
	add("no header", api.OK, func(p *api.Packet) { p.Heads = nil })
	add("the second one alone", api.OK, func(p *api.Packet) { p.Heads = p.Heads[1:] })
	add("no rest", api.OK, func(p *api.Packet) { p.Rest = "" })
	add("another one behind", api.OK, func(p *api.Packet) { p.Heads = append(p.Heads, filled("bit", 0, 0, 0, 1, 1, 1, 1, 1)) })
	add("all", api.OK, func(p *api.Packet) {
		p.Heads = append(p.Heads, api.Filled{Name: "opt", Values: []api.Bits{n(7), most, n(31)}}, filled("bit", 1, 1, 1, 1, 1, 1, 1, 1))
	})
	add("the greatest values", api.OK, func(p *api.Packet) {
		p.Heads = []api.Filled{filled("eth", 0xffff, 0xff), filled("ip", 15, 15, 0xffff, 255)}
		p.Meta = []api.Bits{n(511), most}
	})

	add("turned round", api.ErrPacket, func(p *api.Packet) { p.Heads[0], p.Heads[1] = p.Heads[1], p.Heads[0] })
	add("one twice", api.ErrPacket, func(p *api.Packet) { p.Heads = append(p.Heads, p.Heads[1]) })
	add("the first one twice", api.ErrPacket, func(p *api.Packet) { p.Heads = append(p.Heads[:1], p.Heads...) })
	add("one twice, apart", api.ErrPacket, func(p *api.Packet) { p.Heads = append(p.Heads, p.Heads[0]) })
	add("an unknown header", api.ErrPacket, func(p *api.Packet) { p.Heads[1].Name = "x" })
	add("an unknown header first", api.ErrPacket, func(p *api.Packet) { p.Heads[0].Name = "x" })
	add("an empty name", api.ErrPacket, func(p *api.Packet) { p.Heads[0].Name = "" })
	add("a header meta", api.ErrPacket, func(p *api.Packet) { p.Heads[0].Name = "meta" })
	add("a zero header", api.ErrPacket, func(p *api.Packet) { p.Heads = []api.Filled{{}} })
	add("a name of other letters", api.ErrPacket, func(p *api.Packet) { p.Heads[0].Name = "ETH" })
	add("a value less", api.ErrPacket, func(p *api.Packet) { p.Heads[0].Values = ns(258) })
	add("a value more", api.ErrPacket, func(p *api.Packet) { p.Heads[0].Values = ns(258, 4, 0) })
	add("no values", api.ErrPacket, func(p *api.Packet) { p.Heads[1].Values = nil })
	add("a first value that does not fit", api.ErrPacket, func(p *api.Packet) { p.Heads[0].Values[0] = n(0x10000) })
	add("a last value that does not fit", api.ErrPacket, func(p *api.Packet) { p.Heads[1].Values[3] = n(256) })
	add("a high bit that does not fit", api.ErrPacket, func(p *api.Packet) { p.Heads[0].Values[1] = api.Bits{Hi: 1, Lo: 4} })
	add("another header's values", api.ErrPacket, func(p *api.Packet) { p.Heads[0].Values = p.Heads[1].Values })
	add("metadata less", api.ErrPacket, func(p *api.Packet) { p.Meta = ns(1) })
	add("metadata more", api.ErrPacket, func(p *api.Packet) { p.Meta = ns(1, 2, 0) })
	add("no metadata", api.ErrPacket, func(p *api.Packet) { p.Meta = nil })
	add("metadata that does not fit", api.ErrPacket, func(p *api.Packet) { p.Meta[0] = n(512) })
	add("no header, no metadata", api.ErrPacket, func(p *api.Packet) { *p = api.Packet{} })
	return list
}

func TestRight(t *testing.T) {
	for what, x := range packets() {
		want := ""
		if x.e == api.OK {
			want = modelBuild(whole(), x.p)
		}
		if e := wire.Right(whole(), x.p); e != x.e {
			t.Errorf("%s: %d", what, e)
		}
		checkBuild(t, what, whole(), x.p, want, x.e)
	}
	// The zero packet is right where there is no metadata.
	if e := wire.Right(api.Schema{}, api.Packet{}); e != api.OK {
		t.Error(e)
	}
	checkBuild(t, "zero", api.Schema{}, api.Packet{}, "", api.OK)
	if e := wire.Right(api.Schema{}, smallPacket()); e != api.ErrPacket {
		t.Error(e)
	}
}

// TestNotSound: a schema that is not sound is ErrSchema, whatever the packet is, wherever its fault lies.
func TestNotSound(t *testing.T) {
	for what, change := range map[string]func(s *api.Schema){
		"header":  func(s *api.Schema) { s.Headers[3].Fields[0].Width = 2 },
		"meta":    func(s *api.Schema) { s.Meta[1].Name = "port" },
		"state":   func(s *api.Schema) { s.States[3].Next = "first" },
		"action":  func(s *api.Schema) { s.Actions[2].Steps[0].Kind = 0 },
		"table":   func(s *api.Schema) { s.Tables[0].Size = 0 },
		"control": func(s *api.Schema) { s.Control[0].Kind = 9 },
	} {
		s := whole()
		sound(t, what, s)
		change(&s)
		for name, x := range packets() {
			if e := wire.Right(s, x.p); e != api.ErrSchema {
				t.Errorf("%s, %s: %d", what, name, e)
			}
			checkBuild(t, what+name, s, x.p, "", api.ErrSchema)
			checkPacket(t, what+name, wire.Add(s, x.p, "ip"), api.Packet{})
		}
		checkParse(t, what, s, nil, smallBytes, api.Packet{}, api.ErrSchema)
		long := smallPacket()
		long.Rest = strings.Repeat("r", 2*api.MaxPacket)
		checkBuild(t, what, s, long, "", api.ErrSchema)
		if b, e := wire.Bytes(s, filled("ip", 16)); b != "" || e != api.ErrSchema {
			t.Errorf("%s: %x %d", what, b, e)
		}
		if f, e := wire.From(s, "x", "abc"); !same(f, api.Filled{}) || e != api.ErrSchema {
			t.Errorf("%s: %s %d", what, short(f), e)
		}
	}
}

// TestBuildLong: at the limit all is well; the headers count, and the rest.
func TestBuildLong(t *testing.T) {
	s, p := small(), smallPacket()
	p.Rest = strings.Repeat("r", api.MaxPacket-7)
	checkBuild(t, "at the limit", s, p, smallBytes[:7]+p.Rest, api.OK)
	p.Rest += "r"
	checkBuild(t, "past it", s, p, "", api.ErrLong)
	if e := wire.Right(s, p); e != api.OK {
		t.Errorf("a long one is right: %d", e)
	}
	p.Heads = nil
	p.Rest = strings.Repeat("r", api.MaxPacket)
	checkBuild(t, "the rest alone, at the limit", s, p, p.Rest, api.OK)
	p.Rest += "r"
	checkBuild(t, "the rest alone, past it", s, p, "", api.ErrLong)
	p.Meta = nil
	checkBuild(t, "long and not right", s, p, "", api.ErrPacket)

	// Headers alone may be longer than a packet.
	s = api.Schema{}
	p = api.Packet{}
	for i, name := range []string{"a", "b", "c", "d", "e"} {
		widths := make([]int, api.MaxFields)
		for j := range widths {
			widths[j] = api.MaxWidth
		}
		s.Headers = append(s.Headers, header(name, widths...))
		if i < 4 {
			p.Heads = append(p.Heads, api.Filled{Name: name, Values: make([]api.Bits, api.MaxFields)})
		}
	}
	checkBuild(t, "headers at the limit", s, p, strings.Repeat("\x00", api.MaxPacket), api.OK)
	p.Rest = "r"
	checkBuild(t, "headers at the limit, and a byte", s, p, "", api.ErrLong)
	p.Rest = ""
	p.Heads = append(p.Heads, api.Filled{Name: "e", Values: make([]api.Bits, api.MaxFields)})
	checkBuild(t, "headers past it", s, p, "", api.ErrLong)
	if e := wire.Right(s, p); e != api.OK {
		t.Error(e)
	}
	checkPacket(t, "a long packet is changed like any", wire.Remove(s, p, "a"), api.Packet{Heads: p.Heads[1:]})
}

// TestBuildOrder: the bytes stand in the schema's order.
func TestBuildOrder(t *testing.T) {
	s := api.Schema{Headers: []api.Header{header("z", 8), header("a", 16), header("m", 4, 4)}}
	p := api.Packet{Heads: []api.Filled{filled("z", 1), filled("a", 0x203), filled("m", 4, 5)}, Rest: "rest"}
	checkBuild(t, "all", s, p, "\x01\x02\x03\x45rest", api.OK)
	p.Heads = append(p.Heads[:1], p.Heads[2])
	checkBuild(t, "one less", s, p, "\x01\x45rest", api.OK)
}
