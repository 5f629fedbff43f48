package wire_test

import (
	"strings"
	"testing"

	"turnout/api"
	"turnout/sums"
	"turnout/wire"
)

// P10.3

// TestNothingOfWrong: of a packet that is not right every call is zero, whatever it asks for.
func TestNothingOfWrong(t *testing.T) {
	s := whole()
	for what, x := range packets() {
		if x.e == api.OK {
			continue
		}
		for _, r := range []api.Ref{ref("eth", "dst"), ref("ip", "check"), ref("ip", "len"), ref("meta", "port"), ref("x", "x"), {}} {
			if a := wire.Get(s, x.p, r); a != (api.Bits{}) {
				t.Errorf("%s: Get(%v) = %v", what, r, a)
			}
			checkPacket(t, what+": Set", wire.Set(s, x.p, r, n(1)), api.Packet{})
			checkPacket(t, what+": Sum", wire.Sum(s, x.p, r), api.Packet{})
		}
		for _, header := range []string{"eth", "ip", "opt", "x", "meta", ""} {
			checkPacket(t, what+": Add", wire.Add(s, x.p, header), api.Packet{})
			checkPacket(t, what+": Remove", wire.Remove(s, x.p, header), api.Packet{})
		}
	}
}

// TestGet: each field, of each kind of header.
func TestGet(t *testing.T) {
	s := whole()
	p := api.Packet{Heads: []api.Filled{filled("ip", 5, 10, 7, 9), {Name: "opt", Values: []api.Bits{n(3), most, n(4)}}}, Meta: []api.Bits{n(511), {Hi: 1}}}
	for r, want := range map[api.Ref]api.Bits{
		ref("eth", "dst"):   {},
		ref("eth", "type"):  {},
		ref("ip", "ttl"):    n(5),
		ref("ip", "tos"):    n(10),
		ref("ip", "check"):  n(7),
		ref("ip", "len"):    n(9),
		ref("opt", "f0"):    n(3),
		ref("opt", "f1"):    most,
		ref("opt", "f2"):    n(4),
		ref("bit", "f7"):    {},
		ref("meta", "port"): n(511),
		ref("meta", "mark"): {Hi: 1},
		// No fields:
		ref("meta", "ttl"):  {},
		ref("ip", "port"):   {},
		ref("ip", ""):       {},
		ref("", "ttl"):      {},
		ref("", "port"):     {},
		ref("", ""):         {},
		ref("x", "ttl"):     {},
		ref("IP", "ttl"):    {},
		ref("ip", "ttl "):   {},
		ref("ip.ttl", ""):   {},
		ref("first", "ttl"): {},
	} {
		if a := wire.Get(s, p, r); a != want {
			t.Errorf("Get(%v) = %v; want %v", r, a, want)
		}
	}
}

// TestSet: the value is cut to the field's width; nothing else changes.
func TestSet(t *testing.T) {
	s := whole()
	start := func() api.Packet {
		return api.Packet{Heads: []api.Filled{filled("ip", 5, 10, 7, 9), {Name: "opt", Values: []api.Bits{n(3), n(1), n(4)}}}, Meta: ns(1, 2), Rest: "rest"}
	}
	for r, where := range map[api.Ref]func(p *api.Packet) *api.Bits{
		ref("ip", "ttl"):    func(p *api.Packet) *api.Bits { return &p.Heads[0].Values[0] },
		ref("ip", "len"):    func(p *api.Packet) *api.Bits { return &p.Heads[0].Values[3] },
		ref("opt", "f0"):    func(p *api.Packet) *api.Bits { return &p.Heads[1].Values[0] },
		ref("opt", "f1"):    func(p *api.Packet) *api.Bits { return &p.Heads[1].Values[1] },
		ref("meta", "port"): func(p *api.Packet) *api.Bits { return &p.Meta[0] },
		ref("meta", "mark"): func(p *api.Packet) *api.Bits { return &p.Meta[1] },
	} {
		for _, a := range []api.Bits{{}, n(1), n(16), n(17), n(255), n(256), n(0x1ff), {Hi: 1, Lo: 6}, most} {
			want := start()
			*where(&want) = modelCut(a, modelWidth(s, r))
			checkPacket(t, "Set", wire.Set(s, start(), r, a), want)
		}
	}
	for _, r := range []api.Ref{ref("eth", "dst"), ref("bit", "f0"), ref("ip", "port"), ref("meta", "ttl"), ref("", "ttl"), ref("", "port"), ref("", ""), ref("x", "ttl"), ref("ip", "")} {
		checkPacket(t, "Set of no field", wire.Set(s, start(), r, n(3)), start())
	}
}

// TestAddRemove: a header comes to its place in the schema's order, and goes.
func TestAddRemove(t *testing.T) {
	s := whole()
	p := api.Packet{Meta: ns(1, 2), Rest: "rest"}
	zero := map[string]api.Filled{"eth": filled("eth", 0, 0), "ip": filled("ip", 0, 0, 0, 0), "opt": filled("opt", 0, 0, 0), "bit": filled("bit", 0, 0, 0, 0, 0, 0, 0, 0)}
	names := []string{"eth", "ip", "opt", "bit"}
	for _, order := range [][]string{{"eth", "ip", "opt", "bit"}, {"bit", "opt", "ip", "eth"}, {"ip", "bit", "eth", "opt"}} {
		there := map[string]bool{}
		want := func() api.Packet {
			w := api.Packet{Meta: ns(1, 2), Rest: "rest"}
			for _, name := range names {
				if there[name] {
					w.Heads = append(w.Heads, zero[name])
				}
			}
			return w
		}
		q := p
		for _, name := range order {
			there[name] = true
			q = wire.Add(s, q, name)
			checkPacket(t, "Add "+name, q, want())
		}
		for _, name := range []string{"opt", "eth", "bit", "ip"} {
			delete(there, name)
			q = wire.Remove(s, q, name)
			checkPacket(t, "Remove "+name, q, want())
			checkPacket(t, "Remove again "+name, wire.Remove(s, q, name), want())
		}
	}
	full := api.Packet{Heads: []api.Filled{filled("eth", 1, 2), filled("ip", 1, 2, 3, 4)}, Meta: ns(1, 2), Rest: "rest"}
	want := deepCopy(full)
	want.Heads[0] = zero["eth"]
	checkPacket(t, "Add of one that is there", wire.Add(s, full, "eth"), want)
	for _, name := range []string{"", "x", "meta", "Eth", "port", "first", "out", "route"} {
		checkPacket(t, "Add "+name, wire.Add(s, full, name), full)
		checkPacket(t, "Remove "+name, wire.Remove(s, full, name), full)
	}
}

// TestSum: the field's old value does not count, all other fields do; at every place of the field.
func TestSum(t *testing.T) {
	for what, x := range map[string]struct {
		widths []int
		field  string
		values []uint64
		want   uint64
	}{
		"alone":                  {[]int{16}, "f0", []uint64{0x1234}, 0xffff},
		"the others are 0":       {[]int{16, 16}, "f1", []uint64{0, 77}, 0xffff},
		"behind a word":          {[]int{16, 16}, "f1", []uint64{0x1234, 77}, 0xffff - 0x1234},
		"ahead of a word":        {[]int{16, 16}, "f0", []uint64{77, 0x1234}, 0xffff - 0x1234},
		"the sum is 0":           {[]int{16, 16}, "f0", []uint64{77, 0xffff}, 0},
		"folded":                 {[]int{16, 16, 16}, "f0", []uint64{77, 0xffff, 2}, 0xffff - 2},
		"folded twice":           {[]int{16, 16, 16, 16}, "f3", []uint64{0xffff, 0xffff, 0xffff, 1}, 0},
		"an odd number of bytes": {[]int{16, 8}, "f0", []uint64{77, 0x12}, 0xffff - 0x1200},
		"at an odd byte":         {[]int{8, 16, 8}, "f1", []uint64{0x12, 0xabcd, 0x34}, 0xffff - 0x1234},
		"amid a byte":            {[]int{4, 16, 12}, "f1", []uint64{0x1, 0xabcd, 0x234}, 0xffff - 0x1000 - 0x0234},
		"the second of two":      {[]int{16, 16, 8, 8}, "f1", []uint64{1, 2, 3, 4}, 0xffff - 1 - 0x0304},
		"a wide header":          {[]int{64, 128, 16}, "f2", []uint64{1, 2, 3}, 0xffff - 3},
	} {
		s := api.Schema{Headers: []api.Header{header("o", 16), header("h", x.widths...)}, Meta: fields(16)}
		sound(t, what, s)
		p := api.Packet{Heads: []api.Filled{filled("o", 5), filled("h", x.values...)}, Meta: ns(7), Rest: "rest"}
		want := deepCopy(p)
		at := strings.Index("f0f1f2f3", x.field) / 2
		want.Heads[1].Values[at] = n(x.want)
		checkPacket(t, what, wire.Sum(s, p, ref("h", x.field)), want)
		checkPacket(t, what+": twice", wire.Sum(s, want, ref("h", x.field)), want)
	}
}

// TestSumOfNothing: p as it was, if r names no field, one of the metadata, one of a header that is not there, or one whose width is not 16.
func TestSumOfNothing(t *testing.T) {
	s := whole()
	s.Meta = append(s.Meta, api.Field{Name: "word", Width: 16})
	s.Headers = append(s.Headers, header("odd", 15, 17, 16), header("late", 16))
	sound(t, "words", s)
	p := api.Packet{Heads: []api.Filled{filled("ip", 5, 10, 7, 9), filled("odd", 1, 2, 3)}, Meta: ns(1, 2, 3), Rest: "rest"}
	for _, r := range []api.Ref{
		{}, ref("", "check"), ref("x", "check"), ref("ip", "x"), ref("ip", ""), ref("meta", "check"),
		ref("meta", "word"), ref("meta", "port"), ref("eth", "dst"), ref("late", "f0"),
		ref("ip", "ttl"), ref("ip", "len"), ref("odd", "f0"), ref("odd", "f1"),
	} {
		checkPacket(t, r.Head+"."+r.Name, wire.Sum(s, p, r), p)
	}
	if q := wire.Sum(s, p, ref("odd", "f2")); same(q, p) {
		t.Error("a field of 16 bits was not set")
	}
}

// TestSumFollowsOnes: the sum is package sums' of the bytes that Bytes tells.
func TestSumFollowsOnes(t *testing.T) {
	s, p := small(), smallPacket()
	check := ref("ip", "check")
	b, _ := wire.Bytes(s, filled("ip", 5, 10, 0, 9))
	if got := wire.Get(s, wire.Sum(s, p, check), check); got != n(uint64(sums.Ones(b))) {
		t.Errorf("%v; want %x", got, sums.Ones(b))
	}
}
