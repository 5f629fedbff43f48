package pack_test

import (
	"encoding/binary"
	"math"
	"math/rand"
	"strings"
	"testing"

	"turnout/api"
	"turnout/pack"
	"turnout/value"
)

// A writing is one call that writes, with what it is handed: n and size of Fixed, n of Uint, s of Text and Raw, a and size of Bits.
type writing struct {
	kind string
	n    uint64
	size int
	a    api.Bits
	s    string
}

// do does it.
func (c writing) do(w *pack.Writer) {
	switch c.kind {
	case "Uint":
		w.Uint(c.n)
	case "Fixed":
		w.Fixed(c.n, c.size)
	case "Text":
		w.Text(c.s)
	case "Bits":
		w.Bits(c.a, c.size)
	case "Raw":
		w.Raw(c.s)
	}
}

// want are the bytes that it must put there, or the error.
func (c writing) want() (string, api.Errno) {
	switch c.kind {
	case "Uint":
		return uvarint(c.n), api.OK
	case "Fixed":
		if c.size < 1 || c.size > 8 {
			return "", api.ErrArg
		}
		all := string(binary.BigEndian.AppendUint64(nil, c.n))
		if strings.Trim(all[:8-c.size], "\x00") != "" {
			return "", api.ErrFit
		}
		return all[8-c.size:], api.OK
	case "Text":
		return uvarint(uint64(len(c.s))) + c.s, api.OK
	case "Bits":
		return value.Bytes(c.a, c.size)
	}
	return c.s, api.OK
}

func uvarint(n uint64) string { return string(binary.AppendUvarint(nil, n)) }

// written is a writer behind some writings.
func written(l ...writing) *pack.Writer {
	w := pack.New()
	for _, c := range l {
		c.do(w)
	}
	return w
}

// checkWriter holds a writer against the bytes and the error that it must have.
func checkWriter(t *testing.T, w *pack.Writer, b string, e api.Errno) {
	t.Helper()
	out := b
	if e != api.OK {
		out = ""
	}
	if n := w.Len(); n != len(b) {
		t.Fatalf("Len = %d, want %d", n, len(b))
	}
	if s, got := w.Out(); s != out || got != e {
		t.Fatalf("Out = %q, %d; want %q, %d", s, got, out, e)
	}
}

// numbers are those at each length of their bytes, those at each end of fixed numbers, and their neighbours.
func numbers() []uint64 {
	list := []uint64{0, 1, 2, 5, 126, 300, math.MaxUint64, math.MaxUint64 - 1, math.MaxInt64, 0x0102_0304_0506_0708, 0x8182_8384_8586_8788, 0xaaaa_aaaa_aaaa_aaaa}
	for i := range 64 {
		list = append(list, 1<<i-1, 1<<i, 1<<i+1)
	}
	return list
}

// sizes are numbers of bytes, and of bits, some of which may not be.
func sizes() []int {
	return []int{math.MinInt, math.MinInt + 1, -9, -8, -1, 0, 1, 2, 3, 4, 5, 6, 7, 8, 9, 10, 16, 64, 65, 120, 121, 127, 128, 129, 136, 256, math.MaxInt - 7, math.MaxInt - 1, math.MaxInt}
}

// widths are all that there are, and some that there are not.
func widths() []int {
	list := sizes()
	for width := 1; width <= 128; width++ {
		list = append(list, width)
	}
	return list
}

// values are some at the ends.
func values() []api.Bits {
	list := []api.Bits{{}, {Lo: math.MaxUint64}, {Hi: math.MaxUint64, Lo: math.MaxUint64}, {Hi: 1 << 63}, {Hi: 0x0102_0304_0506_0708, Lo: 0x090a_0b0c_0d0e_0f10}}
	for i := range 64 {
		list = append(list, api.Bits{Lo: 1 << i}, api.Bits{Lo: 1<<i - 1}, api.Bits{Hi: 1 << i}, api.Bits{Hi: 1<<i - 1, Lo: math.MaxUint64})
	}
	return list
}

// texts are empty, short, of bytes that are no letters, and of lengths that need one, two and three bytes.
func texts() []string {
	return []string{"", "a", "ab", "\x00", "\xff\x80\x00\x7f", "\u00e9\u4e16", strings.Repeat("x", 127), strings.Repeat("y", 128), strings.Repeat("z\x81", 150), strings.Repeat("q", 16383), strings.Repeat("r", 16384)}
}

// writings are all kinds, right and wrong ones.
func writings() []writing {
	var list []writing
	for _, n := range numbers() {
		list = append(list, writing{kind: "Uint", n: n})
		for _, size := range sizes() {
			list = append(list, writing{kind: "Fixed", n: n, size: size})
		}
	}
	for _, a := range values() {
		for _, width := range widths() {
			list = append(list, writing{kind: "Bits", a: a, size: width})
		}
	}
	for _, s := range texts() {
		list = append(list, writing{kind: "Text", s: s}, writing{kind: "Raw", s: s})
	}
	return list
}

// P3.1

func TestNew(t *testing.T) {
	if pack.New() == nil {
		t.Fatal("New is nil")
	}
	checkWriter(t, pack.New(), "", api.OK)
}

func TestWriteExamples(t *testing.T) {
	checkWriter(t, written(writing{kind: "Uint"}, writing{kind: "Uint", n: 127}, writing{kind: "Uint", n: 128}, writing{kind: "Uint", n: 300}), "\x00\x7f\x80\x01\xac\x02", api.OK)
	checkWriter(t, written(writing{kind: "Fixed", n: 258, size: 2}, writing{kind: "Text", s: "ab"}, writing{kind: "Bits", a: api.Bits{Lo: 258}, size: 12}, writing{kind: "Raw", s: "x"}), "\x01\x02\x02ab\x01\x02x", api.OK)
	checkWriter(t, written(writing{kind: "Fixed", n: 256, size: 1}, writing{kind: "Uint", n: 5}), "", api.ErrFit)
	checkWriter(t, written(writing{kind: "Fixed", n: 0, size: 9}), "", api.ErrArg)
	checkWriter(t, written(writing{kind: "Bits", a: api.Bits{Lo: 4}, size: 2}), "", api.ErrFit)
}

// TestWriteByHand: bytes at the ends, written out.
func TestWriteByHand(t *testing.T) {
	for _, c := range []struct {
		do   writing
		want string
	}{
		{writing{kind: "Uint", n: 1<<14 - 1}, "\xff\x7f"},
		{writing{kind: "Uint", n: 1 << 14}, "\x80\x80\x01"},
		{writing{kind: "Uint", n: 1<<63 - 1}, "\xff\xff\xff\xff\xff\xff\xff\xff\x7f"},
		{writing{kind: "Uint", n: 1 << 63}, "\x80\x80\x80\x80\x80\x80\x80\x80\x80\x01"},
		{writing{kind: "Uint", n: math.MaxUint64}, "\xff\xff\xff\xff\xff\xff\xff\xff\xff\x01"},
		{writing{kind: "Fixed", n: 0, size: 1}, "\x00"},
		{writing{kind: "Fixed", n: 255, size: 1}, "\xff"},
		{writing{kind: "Fixed", n: 1, size: 8}, "\x00\x00\x00\x00\x00\x00\x00\x01"},
		{writing{kind: "Fixed", n: math.MaxUint64, size: 8}, "\xff\xff\xff\xff\xff\xff\xff\xff"},
		{writing{kind: "Fixed", n: 0x0102_0304_0506_0708, size: 8}, "\x01\x02\x03\x04\x05\x06\x07\x08"},
		{writing{kind: "Text", s: ""}, "\x00"},
		{writing{kind: "Raw", s: ""}, ""},
		{writing{kind: "Bits", a: api.Bits{Lo: 1}, size: 1}, "\x01"},
		{writing{kind: "Bits", a: api.Bits{Hi: 1 << 63, Lo: 2}, size: 128}, "\x80\x00\x00\x00\x00\x00\x00\x00\x00\x00\x00\x00\x00\x00\x00\x02"},
	} {
		checkWriter(t, written(c.do), c.want, api.OK)
	}
}

// TestWritings: each call, at the beginning and behind some bytes, and what a call behind it does.
func TestWritings(t *testing.T) {
	for _, c := range writings() {
		b, e := c.want()
		checkWriter(t, written(c), b, e)
		w := written(writing{kind: "Raw", s: "ahead"}, c)
		checkWriter(t, w, "ahead"+b, e)
		w.Uint(300)
		if e != api.OK {
			checkWriter(t, w, "ahead", e)
		} else {
			checkWriter(t, w, "ahead"+b+"\xac\x02", api.OK)
		}
	}
}

// TestFirstErrorOfWriter: behind an error no call puts anything there, and no other error takes its place.
func TestFirstErrorOfWriter(t *testing.T) {
	wrong := []writing{
		{kind: "Fixed", n: 256, size: 1}, {kind: "Fixed", size: 0}, {kind: "Fixed", size: 9}, {kind: "Fixed", n: 1 << 56, size: 7},
		{kind: "Bits", a: api.Bits{Lo: 2}, size: 1}, {kind: "Bits", size: 0}, {kind: "Bits", size: 129}, {kind: "Bits", a: api.Bits{Hi: 1 << 63}, size: 127},
	}
	right := []writing{{kind: "Uint", n: 5}, {kind: "Fixed", n: 5, size: 1}, {kind: "Text", s: "ab"}, {kind: "Text"}, {kind: "Bits", a: api.Bits{Lo: 1}, size: 1}, {kind: "Raw", s: "x"}}
	for _, first := range wrong {
		_, e := first.want()
		if e == api.OK {
			t.Fatalf("%v is no error", first)
		}
		for _, c := range append(right, wrong...) {
			w := written(writing{kind: "Text", s: "q"}, first, c)
			checkWriter(t, w, "\x01q", e)
			c.do(w)
			checkWriter(t, w, "\x01q", e)
		}
	}
}

// TestWrittenOn: a writer goes on behind Out, and what was answered stays as it was.
func TestWrittenOn(t *testing.T) {
	w := pack.New()
	want := ""
	var outs, wants []string
	for i := range 300 {
		c := writing{kind: "Uint", n: uint64(i)}
		c.do(w)
		b, _ := c.want()
		want += b
		s, e := w.Out()
		if again, e2 := w.Out(); s != want || again != want || e != api.OK || e2 != api.OK || w.Len() != len(want) {
			t.Fatalf("Out behind %d numbers: %q, %d, and again %q, %d; Len %d", i+1, s, e, again, e2, w.Len())
		}
		outs, wants = append(outs, s), append(wants, want)
	}
	for i, s := range outs {
		if s != wants[i] {
			t.Fatalf("what Out %d answered became %q", i, s)
		}
	}
	w.Fixed(0, 0)
	checkWriter(t, w, want, api.ErrArg)
	w.Raw("x")
	checkWriter(t, w, want, api.ErrArg)
}

// TestWriterScripts: long rows of calls, most of them right.
func TestWriterScripts(t *testing.T) {
	d := rand.New(rand.NewSource(3))
	all := writings()
	for range 3000 {
		w := pack.New()
		want, fault := "", api.OK
		for range 1 + d.Intn(12) {
			c := all[d.Intn(len(all))]
			b, e := c.want()
			if e != api.OK && d.Intn(4) > 0 {
				continue
			}
			c.do(w)
			if fault == api.OK {
				want, fault = want+b, e
			}
			checkWriter(t, w, want, fault)
		}
	}
}

// TestTwoWriters: they have nothing to do with one another (R4).
func TestTwoWriters(t *testing.T) {
	a, b := pack.New(), pack.New()
	for _, s := range texts() {
		a.Text(s)
		b.Raw(s)
	}
	var wantA, wantB string
	for _, s := range texts() {
		wantA += uvarint(uint64(len(s))) + s
		wantB += s
	}
	a.Fixed(0, 0)
	checkWriter(t, a, wantA, api.ErrArg)
	checkWriter(t, b, wantB, api.OK)
}

// P3.4

func TestNilWriter(t *testing.T) {
	for _, c := range writings() {
		var w *pack.Writer
		c.do(w)
		if s, e := w.Out(); s != "" || e != api.ErrArg || w.Len() != 0 {
			t.Fatalf("a nil writer behind %v: %q, %d, Len %d", c, s, e, w.Len())
		}
	}
}
