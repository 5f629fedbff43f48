package wire_test

import (
	"fmt"
	"strings"
	"testing"

	"turnout/api"
	"turnout/wire"
)

// P10.1

// TestParseLong: at the limit all is well, one past it is ErrLong, ahead of a schema that is not sound.
func TestParseLong(t *testing.T) {
	s := small()
	limit := smallBytes[:7] + strings.Repeat("r", api.MaxPacket-7)
	want := smallPacket()
	want.Rest = limit[7:]
	checkParse(t, "at the limit", s, ns(1), limit, want, api.OK)
	checkParse(t, "past it", s, ns(1), limit+"r", api.Packet{}, api.ErrLong)
	checkParse(t, "the empty schema, at the limit", api.Schema{}, nil, limit, api.Packet{Rest: limit}, api.OK)
	checkParse(t, "the empty schema, past it", api.Schema{}, nil, limit+"r", api.Packet{}, api.ErrLong)
	s.Headers[0].Fields[0].Width = 15
	checkParse(t, "not sound", s, ns(1), limit, api.Packet{}, api.ErrSchema)
	checkParse(t, "not sound, past the limit", s, ns(1), limit+"r", api.Packet{}, api.ErrLong)
}

// TestParseGreatest: as many headers, fields, states and bits as there may be, one header a state.
func TestParseGreatest(t *testing.T) {
	var s api.Schema
	widths := make([]int, api.MaxFields)
	for i := range widths {
		widths[i] = api.MaxWidth
	}
	for i := range api.MaxHeaders {
		name := fmt.Sprint("h", i)
		s.Headers = append(s.Headers, header(name, widths...))
		if i > 3 {
			s.Headers[i].Fields = fields(8)
		}
		s.States = append(s.States, state(fmt.Sprint("s", i), name, fmt.Sprint("s", i+1)))
	}
	s.Meta = fields(widths...)
	s.States[api.MaxStates-1].Next = "accept"
	sound(t, "the greatest", s)
	// Four headers fill a packet; so the first one of the parser is the fifth one.
	s.States = s.States[4:]
	packet := strings.Repeat("\xff\x01", api.MaxPacket/2)
	want, e := modelParse(s, nil, packet)
	if e != api.OK || len(want.Heads) != 28 || len(want.Rest) != api.MaxPacket-28 {
		t.Fatal(e)
	}
	checkParse(t, "28 states", s, nil, packet, want, api.OK)
	s.States = []api.State{state("a", "h2", "b"), state("b", "h0", "c"), state("c", "h3", "d"), state("d", "h1", "accept")}
	want, e = modelParse(s, nil, packet)
	if e != api.OK || len(want.Heads) != 4 || want.Rest != "" {
		t.Fatal(e)
	}
	checkParse(t, "four great headers", s, nil, packet, want, api.OK)
	checkParse(t, "a byte less", s, nil, packet[1:], api.Packet{}, api.ErrShort)
}

// TestParseAllStates: the longest way goes through all states that there may be.
func TestParseAllStates(t *testing.T) {
	var s api.Schema
	for i := range api.MaxStates {
		s.Headers = append(s.Headers, header(fmt.Sprint("h", i), 8))
		// They lie in the other order: all but the first one lead to the one ahead.
		s.States = append(s.States, state(fmt.Sprint("s", i), fmt.Sprint("h", i), fmt.Sprint("s", i-1)))
	}
	s.States[0].Next = "s31"
	s.States[1].Next = "accept"
	sound(t, "all states", s)
	packet := "abcdefghijklmnopqrstuvwxyz0123456789"
	want := api.Packet{Rest: packet[32:]}
	for i := range api.MaxStates {
		// h0 is taken first, then h31, h30 and so on.
		at := (32 - i) % 32
		want.Heads = append(want.Heads, filled(fmt.Sprint("h", i), uint64(packet[at])))
	}
	checkParse(t, "all states", s, nil, packet, want, api.OK)
	checkParse(t, "just enough", s, nil, packet[:32], api.Packet{Heads: want.Heads}, api.OK)
	checkParse(t, "a byte less", s, nil, packet[:31], api.Packet{}, api.ErrShort)
}

// TestParseMeta: the i-th value is the i-th one of in, cut; 0, if there are fewer; further ones are not looked at.
func TestParseMeta(t *testing.T) {
	s := api.Schema{Meta: fields(1, 9, 64, 65, 128)}
	for _, x := range []struct{ in, want []api.Bits }{
		{nil, ns(0, 0, 0, 0, 0)},
		{ns(1), ns(1, 0, 0, 0, 0)},
		{ns(2, 512), ns(0, 0, 0, 0, 0)},
		{ns(3, 513, 7), ns(1, 1, 7, 0, 0)},
		{[]api.Bits{most, most, most, most, most}, []api.Bits{n(1), n(511), n(1<<64 - 1), {Hi: 1, Lo: 1<<64 - 1}, most}},
		{ns(0, 1, 2, 3, 4, 5, 6), ns(0, 1, 2, 3, 4)},
	} {
		checkParse(t, fmt.Sprint(x.in), s, x.in, "ab", api.Packet{Meta: x.want, Rest: "ab"}, api.OK)
	}
	checkParse(t, "no metadata", api.Schema{}, ns(1, 2), "ab", api.Packet{Rest: "ab"}, api.OK)
}

// TestParseNoState: no state, no header.
func TestParseNoState(t *testing.T) {
	s := small()
	s.States = nil
	checkParse(t, "no state", s, ns(513), smallBytes, api.Packet{Meta: ns(1), Rest: smallBytes}, api.OK)
	checkParse(t, "no state, no bytes", s, nil, "", api.Packet{Meta: ns(0)}, api.OK)
}

// TestParseFirst: the parser begins at the first state, whatever it is called, and meets none that nothing leads to.
func TestParseFirst(t *testing.T) {
	s := small()
	s.States = []api.State{state("second", "ip", "accept"), state("first", "eth", "reject")}
	checkParse(t, "ip first", s, nil, "\x5a\x00\x07\x09\x08", api.Packet{Heads: []api.Filled{filled("ip", 5, 10, 7, 9)}, Meta: ns(0), Rest: "\x08"}, api.OK)
	s.States[0], s.States[1] = s.States[1], s.States[0]
	checkParse(t, "eth first", s, nil, "\x5a\x00\x07\x09\x08", api.Packet{}, api.ErrReject)
}

// TestParseOrder: the heads stand in the schema's order, in whichever they were taken.
func TestParseOrder(t *testing.T) {
	s := small()
	s.States = []api.State{state("a", "ip", "b"), state("b", "eth", "accept")}
	checkParse(t, "ip ahead of eth", s, nil, "\x5a\x00\x07\x09\x01\x02\x04\x08", api.Packet{Heads: []api.Filled{filled("eth", 258, 4), filled("ip", 5, 10, 7, 9)}, Meta: ns(0), Rest: "\x08"}, api.OK)
}

// TestParseShort: a header needs all its bytes, also where the packet will be rejected behind it; just enough are enough.
func TestParseShort(t *testing.T) {
	s := small()
	for size := range 7 {
		// Three bytes are eth alone; its type leads on.
		checkParse(t, fmt.Sprint(size), s, nil, smallBytes[:size], api.Packet{}, api.ErrShort)
	}
	want := smallPacket()
	want.Rest = ""
	checkParse(t, "enough", s, ns(1), smallBytes[:7], want, api.OK)
	s.States[1].Next = "reject"
	checkParse(t, "short ahead of reject", s, nil, smallBytes[:6], api.Packet{}, api.ErrShort)
	checkParse(t, "reject", s, nil, smallBytes[:7], api.Packet{}, api.ErrReject)
	s.States[0].Cases[0].Next = "reject"
	checkParse(t, "reject by a case", s, nil, smallBytes[:3], api.Packet{}, api.ErrReject)
	checkParse(t, "accept", s, ns(2), "\x01\x02\x03", api.Packet{Heads: []api.Filled{filled("eth", 258, 3)}, Meta: ns(2)}, api.OK)
}

// TestParseAgain: a header a second time is ErrAgain, also where bytes are short, at once or behind others.
func TestParseAgain(t *testing.T) {
	s := small()
	s.States[1].Header = "eth"
	checkParse(t, "bytes enough", s, nil, smallBytes, api.Packet{}, api.ErrAgain)
	checkParse(t, "no bytes", s, nil, smallBytes[:3], api.Packet{}, api.ErrAgain)
	checkParse(t, "short in the first", s, nil, smallBytes[:2], api.Packet{}, api.ErrShort)
	s.States = []api.State{state("a", "eth", "b"), state("b", "ip", "c"), state("c", "eth", "reject")}
	checkParse(t, "behind another", s, nil, smallBytes, api.Packet{}, api.ErrAgain)
	s.States[2].Header = "ip"
	checkParse(t, "the other one", s, nil, smallBytes, api.Packet{}, api.ErrAgain)
	// A header of the same fields under another name is another one.
	s.Headers = append(s.Headers, api.Header{Name: "tag", Fields: s.Headers[0].Fields})
	s.States[2] = state("c", "tag", "accept")
	checkParse(t, "alike", s, nil, smallBytes+"ab", api.Packet{Heads: []api.Filled{filled("eth", 258, 4), filled("ip", 5, 10, 7, 9), filled("tag", 0x0861, 'b')}, Meta: ns(0)}, api.OK)
}

// TestParseOn: which field is looked at: of the header just taken, of an earlier one, of one that is not there (0), of the metadata as it was cut.
func TestParseOn(t *testing.T) {
	for _, x := range []struct {
		on     api.Ref
		value  uint64
		mask   uint64
		taken  bool
		remark string
	}{
		{ref("ip", "tos"), 10, 15, true, "of this header"},
		{ref("ip", "tos"), 5, 15, false, "of this header, another value"},
		{ref("ip", "check"), 7, 0xffff, true, "of this header"},
		{ref("eth", "dst"), 258, 0xffff, true, "of an earlier header"},
		{ref("eth", "dst"), 2, 0xff, true, "under a mask"},
		{ref("eth", "dst"), 0, 0xfe, false, "under a mask that has one of its bits"},
		{ref("opt", "f1"), 0, 0xffff, true, "of a header that is not there"},
		{ref("opt", "f1"), 1, 0xffff, false, "of a header that is not there"},
		{ref("meta", "port"), 1, 511, true, "of the metadata, cut"},
		{ref("meta", "port"), 2, 511, false, "of the metadata"},
		{ref("meta", "mark"), 0, 1, true, "of the metadata that in says nothing of"},
		{ref("meta", "mark"), 0, 0, true, "with an empty mask"},
	} {
		s := whole()
		s.States[0].Next, s.States[0].Cases = "second", nil
		s.States[1].On, s.States[1].Next = x.on, "reject"
		s.States[1].Cases = []api.Case{{Value: n(x.value), Mask: n(x.mask), Next: "accept"}}
		sound(t, x.remark, s)
		want := smallPacket()
		want.Meta = ns(1, 0)
		if x.taken {
			checkParse(t, fmt.Sprint(x), s, ns(513), smallBytes, want, api.OK)
		} else {
			checkParse(t, fmt.Sprint(x), s, ns(513), smallBytes, api.Packet{}, api.ErrReject)
		}
	}
}

// TestParseWideCase: masks and values of the higher bits count.
func TestParseWideCase(t *testing.T) {
	s := api.Schema{Headers: []api.Header{header("h", 128)}}
	on := ref("h", "f0")
	high := api.Bits{Hi: 1 << 63}
	s.States = []api.State{{Name: "a", Header: "h", On: on, Cases: []api.Case{{Value: high, Mask: high, Next: "accept"}}, Next: "reject"}}
	sound(t, "wide", s)
	packet := "\x80" + strings.Repeat("\x00", 14) + "\x01"
	checkParse(t, "the bit", s, nil, packet, api.Packet{Heads: []api.Filled{{Name: "h", Values: []api.Bits{{Hi: 1 << 63, Lo: 1}}}}}, api.OK)
	checkParse(t, "not the bit", s, nil, "\x7f"+packet[1:], api.Packet{}, api.ErrReject)
	s.States[0].Cases[0] = api.Case{Value: api.Bits{Hi: 1 << 63, Lo: 1}, Mask: most, Next: "accept"}
	checkParse(t, "all bits", s, nil, packet, api.Packet{Heads: []api.Filled{{Name: "h", Values: []api.Bits{{Hi: 1 << 63, Lo: 1}}}}}, api.OK)
	checkParse(t, "one bit other", s, nil, packet[:15]+"\x00", api.Packet{}, api.ErrReject)
}

// TestParseCases: the first case that fits counts; behind all of them the state's Next.
func TestParseCases(t *testing.T) {
	s := whole()
	s.States = []api.State{
		{Name: "a", Header: "eth", On: ref("eth", "type"), Cases: []api.Case{
			{Value: n(0x10), Mask: n(0xf0), Next: "b"},
			{Value: n(0x12), Mask: n(0xff), Next: "reject"},
			{Value: n(0x02), Mask: n(0x0f), Next: "c"},
			{Value: n(0x20), Mask: n(0xff), Next: "accept"},
		}, Next: "d"},
		state("b", "ip", "accept"), state("c", "bit", "accept"), state("d", "opt", "reject"),
	}
	sound(t, "cases", s)
	rest := strings.Repeat("\x80", 17)
	for what, x := range map[string]struct {
		heads []string
		e     api.Errno
	}{
		"\x12": {[]string{"eth", "ip"}, api.OK}, // the first, not the second one nor the third one
		"\x1f": {[]string{"eth", "ip"}, api.OK},
		"\x22": {[]string{"eth", "bit"}, api.OK},
		"\x20": {[]string{"eth"}, api.OK},
		"\x21": {nil, api.ErrReject}, // by d
	} {
		p, e := wire.Parse(s, nil, "ab"+what+rest)
		var heads []string
		for _, f := range p.Heads {
			heads = append(heads, f.Name)
		}
		if fmt.Sprint(heads) != fmt.Sprint(x.heads) || e != x.e {
			t.Errorf("%x: %v %d", what, heads, e)
		}
	}
	s.States[0].Cases = nil
	checkParse(t, "no case", s, nil, "ab\x12"+rest, api.Packet{}, api.ErrReject)
	checkParse(t, "no case, short", s, nil, "ab\x12"+rest[1:], api.Packet{}, api.ErrShort)
}

// TestParseJoined: ways that part may come together again.
func TestParseJoined(t *testing.T) {
	s := whole()
	s.States = []api.State{
		{Name: "a", Header: "eth", On: ref("eth", "type"), Cases: []api.Case{{Value: n(1), Mask: n(1), Next: "b"}}, Next: "c"},
		state("b", "ip", "c"), state("c", "bit", "accept"),
	}
	sound(t, "joined", s)
	checkParse(t, "straight on", s, nil, "\x00\x01\x02\x81", api.Packet{Heads: []api.Filled{filled("eth", 1, 2), filled("bit", 1, 0, 0, 0, 0, 0, 0, 1)}, Meta: ns(0, 0)}, api.OK)
	checkParse(t, "by ip", s, nil, "\x00\x01\x03\x12\x00\x03\x04\x81", api.Packet{Heads: []api.Filled{filled("eth", 1, 3), filled("ip", 1, 2, 3, 4), filled("bit", 1, 0, 0, 0, 0, 0, 0, 1)}, Meta: ns(0, 0)}, api.OK)
}
