package wire_test

import (
	"testing"

	"turnout/api"
	"turnout/wire"
)

// The chapter's examples, one by one.

// P10.1
func TestExampleParse(t *testing.T) {
	s := small()
	checkParse(t, "two headers", s, ns(513), smallBytes, smallPacket(), api.OK)
	checkParse(t, "one header", s, ns(513), "\x01\x02\x05", api.Packet{Heads: []api.Filled{filled("eth", 258, 5)}, Meta: ns(1)}, api.OK)
	checkParse(t, "short", s, ns(513), "\x01\x02\x04\x09", api.Packet{}, api.ErrShort)
	checkParse(t, "long", s, ns(513), string(make([]byte, 2049)), api.Packet{}, api.ErrLong)
	s.States[1].Header = "eth"
	checkParse(t, "again", s, ns(513), smallBytes, api.Packet{}, api.ErrAgain)
}

// P10.2
func TestExampleBuild(t *testing.T) {
	checkBuild(t, "the packet", small(), smallPacket(), smallBytes, api.OK)
}

// P10.3
func TestExampleFields(t *testing.T) {
	s, p := small(), smallPacket()
	for r, want := range map[api.Ref]uint64{ref("eth", "dst"): 258, ref("ip", "tos"): 10, ref("meta", "port"): 1, ref("meta", "x"): 0} {
		if got := wire.Get(s, p, r); got != n(want) {
			t.Errorf("Get(%v) = %v", r, got)
		}
	}
	want := smallPacket()
	want.Heads[1] = filled("ip", 1, 10, 7, 9)
	checkPacket(t, "Set(ip.ttl, 17)", wire.Set(s, p, ref("ip", "ttl"), n(17)), want)
	checkPacket(t, "Set(eth.x, 1)", wire.Set(s, p, ref("eth", "x"), n(1)), smallPacket())
	without := smallPacket()
	without.Heads = without.Heads[:1]
	checkPacket(t, "Set(ip.ttl, 1) without ip", wire.Set(s, without, ref("ip", "ttl"), n(1)), without)

	want.Heads[1] = filled("ip", 0, 0, 0, 0)
	checkPacket(t, "Add(ip)", wire.Add(s, p, "ip"), want)
	checkPacket(t, "Add(ip) without it", wire.Add(s, without, "ip"), want)
	want = smallPacket()
	want.Heads = want.Heads[1:]
	checkPacket(t, "Remove(eth)", wire.Remove(s, p, "eth"), want)
	checkPacket(t, "Add(x)", wire.Add(s, p, "x"), smallPacket())

	want = smallPacket()
	want.Heads[1] = filled("ip", 5, 10, 0xA5F6, 9)
	checkPacket(t, "Sum(ip.check)", wire.Sum(s, p, ref("ip", "check")), want)
}

// P10.4
func TestExampleBytes(t *testing.T) {
	if b, e := wire.Bytes(small(), filled("ip", 5, 10, 7, 9)); b != "\x5a\x00\x07\x09" || e != api.OK {
		t.Errorf("%x %d", b, e)
	}
	if b, e := wire.Bytes(small(), filled("ip", 16, 10, 7, 9)); b != "" || e != api.ErrPacket {
		t.Errorf("%x %d", b, e)
	}
}
