package wire_test

import (
	"slices"
	"strings"
	"testing"

	"turnout/api"
	"turnout/wire"
)

// P10.4

// TestHeaderBytes: headers and their bytes, written by hand, both ways.
func TestHeaderBytes(t *testing.T) {
	high := api.Bits{Hi: 1 << 63}
	for what, x := range map[string]struct {
		widths []int
		values []api.Bits
		bytes  string
	}{
		"a byte":                {[]int{8}, ns(0xa5), "\xa5"},
		"bits":                  {[]int{1, 1, 1, 1, 1, 1, 1, 1}, ns(1, 0, 1, 0, 0, 1, 0, 1), "\xa5"},
		"3 and 5":               {[]int{3, 5}, ns(5, 5), "\xa5"},
		"5 and 3":               {[]int{5, 3}, ns(20, 5), "\xa5"},
		"4, 16, 4":              {[]int{4, 16, 4}, ns(1, 0x2345, 6), "\x12\x34\x56"},
		"1 and 15":              {[]int{1, 15}, ns(1, 1), "\x80\x01"},
		"15 and 1":              {[]int{15, 1}, ns(1<<14, 1), "\x80\x01"},
		"9, 9, 6":               {[]int{9, 9, 6}, ns(0x101, 0x101, 0x21), "\x80\xc0\x61"},
		"64":                    {[]int{64}, ns(0x0102030405060708), "\x01\x02\x03\x04\x05\x06\x07\x08"},
		"65 and 7":              {[]int{65, 7}, []api.Bits{{Hi: 1, Lo: 1}, n(1)}, "\x80\x00\x00\x00\x00\x00\x00\x00\x81"},
		"128":                   {[]int{128}, []api.Bits{{Hi: 0x0102030405060708, Lo: 0x090a0b0c0d0e0f10}}, "\x01\x02\x03\x04\x05\x06\x07\x08\x09\x0a\x0b\x0c\x0d\x0e\x0f\x10"},
		"128 amid bytes":        {[]int{4, 128, 4}, []api.Bits{n(15), {}, n(15)}, "\xf0" + strings.Repeat("\x00", 15) + "\x0f"},
		"128 ones amid bytes":   {[]int{4, 128, 4}, []api.Bits{{}, most, {}}, "\x0f" + strings.Repeat("\xff", 15) + "\xf0"},
		"the ends of 128":       {[]int{1, 128, 7}, []api.Bits{{}, {Hi: high.Hi, Lo: 1}, {}}, "\x40" + strings.Repeat("\x00", 15) + "\x80"},
		"all noughts":           {[]int{3, 7, 22}, ns(0, 0, 0), "\x00\x00\x00\x00"},
		"all ones":              {[]int{3, 7, 22}, ns(7, 127, 1<<22-1), "\xff\xff\xff\xff"},
		"one byte behind other": {[]int{8, 8, 8}, ns(1, 2, 3), "\x01\x02\x03"},
	} {
		s := api.Schema{Headers: []api.Header{header("other", 8), header("h", x.widths...)}}
		sound(t, what, s)
		if b, e := wire.Bytes(s, api.Filled{Name: "h", Values: x.values}); b != x.bytes || e != api.OK {
			t.Errorf("%s: %x %d; want %x", what, b, e, x.bytes)
		}
		if f, e := wire.From(s, "h", x.bytes); f.Name != "h" || !slices.Equal(f.Values, x.values) || e != api.OK {
			t.Errorf("%s: %s %d; want %v", what, short(f), e, x.values)
		}
	}
}

// TestBytesNotRight: what is no filled header is ErrPacket.
func TestBytesNotRight(t *testing.T) {
	for what, f := range map[string]api.Filled{
		"zero":                  {},
		"no such header":        filled("x", 258, 4),
		"meta":                  filled("meta", 1),
		"an empty name":         filled("", 258, 4),
		"no values":             filled("eth"),
		"a value less":          filled("eth", 258),
		"a value more":          filled("eth", 258, 4, 0),
		"the first too great":   filled("eth", 0x10000, 4),
		"the second too great":  filled("eth", 258, 256),
		"too great in the high": {Name: "eth", Values: []api.Bits{n(258), {Hi: 1}}},
		"the other's values":    filled("eth", 5, 10, 7, 9),
	} {
		if b, e := wire.Bytes(small(), f); b != "" || e != api.ErrPacket {
			t.Errorf("%s: %x %d", what, b, e)
		}
	}
	if b, e := wire.Bytes(small(), filled("eth", 0xffff, 255)); b != "\xff\xff\xff" || e != api.OK {
		t.Errorf("%x %d", b, e)
	}
}

// TestFromNotRight: a header that there is not, or another number of bytes, is ErrPacket.
func TestFromNotRight(t *testing.T) {
	for _, x := range []struct{ header, b string }{
		{"", ""}, {"", "abc"}, {"x", "abc"}, {"meta", "a"}, {"meta", "ab"}, {"Eth", "abc"}, {"eth", ""}, {"eth", "ab"}, {"eth", "abcd"}, {"ip", "abc"}, {"ip", strings.Repeat("a", 1<<20)},
	} {
		if f, e := wire.From(small(), x.header, x.b); !same(f, api.Filled{}) || e != api.ErrPacket {
			t.Errorf("%q of %d bytes: %s %d", x.header, len(x.b), short(f), e)
		}
	}
	if f, e := wire.From(small(), "eth", "\x00\x00\x00"); !same(f, filled("eth", 0, 0)) || e != api.OK {
		t.Errorf("%s %d", short(f), e)
	}
}
