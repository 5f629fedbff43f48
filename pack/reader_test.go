package pack_test

import (
	"math"
	"math/big"
	"math/rand"
	"slices"
	"strings"
	"testing"
	"unsafe"

	"turnout/api"
	"turnout/pack"
)

// A reading is one call that reads: most of Uint; size of the others (most of Text, width of Bits, bytes of Fixed and Raw).
type reading struct {
	kind string
	most uint64
	size int
}

// An answer is what a reading tells, in the field of its kind.
type answer struct {
	n uint64
	s string
	a api.Bits
}

func (c reading) do(r *pack.Reader) answer {
	switch c.kind {
	case "Uint":
		return answer{n: r.Uint(c.most)}
	case "Fixed":
		return answer{n: r.Fixed(c.size)}
	case "Text":
		return answer{s: r.Text(c.size)}
	case "Bits":
		return answer{a: r.Bits(c.size)}
	}
	return answer{s: r.Raw(c.size)}
}

// number is what the bytes ahead say, in base 2 to the power of step, the lowest digit first if low.
func number(b string, step int, low bool) *big.Int {
	digits := []byte(b)
	if low {
		slices.Reverse(digits)
	}
	n := new(big.Int)
	for _, digit := range digits {
		n.Lsh(n, uint(step))
		n.Or(n, big.NewInt(int64(digit)&(1<<step-1)))
	}
	return n
}

// wantNumber is what Uint must read, of how many bytes, or the error, in the words of P3.3.
func wantNumber(b string, most uint64) (uint64, int, api.Errno) {
	ten := []byte(b[:min(len(b), 10)])
	last := slices.IndexFunc(ten, func(c byte) bool { return c < 128 })
	if last < 0 {
		if len(b) < 10 {
			return 0, 0, api.ErrEnd
		}
		return 0, 0, api.ErrForm
	}
	if ten[last] == 0 && last > 0 || last == 9 && ten[9] > 1 {
		return 0, 0, api.ErrForm
	}
	n := number(b[:last+1], 7, true)
	if n.Cmp(new(big.Int).SetUint64(most)) > 0 {
		return 0, 0, api.ErrLong
	}
	return n.Uint64(), last + 1, api.OK
}

// want is what a reading must tell of the bytes ahead, how many of them it goes over, or the error.
func (c reading) want(b string) (answer, int, api.Errno) {
	switch c.kind {
	case "Uint":
		n, length, e := wantNumber(b, c.most)
		return answer{n: n}, length, e
	case "Text":
		if c.size < 0 {
			return answer{}, 0, api.ErrArg
		}
		n, length, e := wantNumber(b, uint64(c.size))
		if e != api.OK {
			return answer{}, 0, e
		}
		if uint64(len(b)-length) < n {
			return answer{}, 0, api.ErrEnd
		}
		end := length + int(n)
		return answer{s: b[length:end]}, end, api.OK
	case "Bits":
		return wantBits(b, c.size)
	}
	if c.size < 0 || c.kind == "Fixed" && (c.size < 1 || c.size > 8) {
		return answer{}, 0, api.ErrArg
	}
	if len(b) < c.size {
		return answer{}, 0, api.ErrEnd
	}
	if c.kind == "Fixed" {
		return answer{n: number(b[:c.size], 8, false).Uint64()}, c.size, api.OK
	}
	return answer{s: b[:c.size]}, c.size, api.OK
}

func wantBits(b string, width int) (answer, int, api.Errno) {
	if width < 1 || width > 128 {
		return answer{}, 0, api.ErrWidth
	}
	count := width / 8
	if width%8 != 0 {
		count++
	}
	if len(b) < count {
		return answer{}, 0, api.ErrEnd
	}
	n := number(b[:count], 8, false)
	if n.BitLen() > width {
		return answer{}, 0, api.ErrFit
	}
	low := new(big.Int).And(n, new(big.Int).SetUint64(math.MaxUint64))
	return answer{a: api.Bits{Hi: n.Rsh(n, 64).Uint64(), Lo: low.Uint64()}}, count, api.OK
}

// A model is what a reader must be.
type model struct {
	b     string
	at    int
	fault api.Errno
	began int
}

// do is what a reading must answer, and what it leads to.
func (m *model) do(c reading) answer {
	if m.fault != api.OK {
		return answer{}
	}
	got, length, e := c.want(m.b[m.at:])
	if e != api.OK {
		m.fault, m.began = e, m.at
		return answer{}
	}
	m.at += length
	return got
}

// check holds a reader against what it must be; twice, for asking changes nothing.
func (m *model) check(t *testing.T, r *pack.Reader) {
	t.Helper()
	end := m.fault
	if end == api.OK && m.at < len(m.b) {
		end = api.ErrRest
	}
	for range 2 {
		if e := r.End(); e != end {
			t.Fatalf("End = %d, want %d", e, end)
		}
		if at := r.At(); at != m.at {
			t.Fatalf("At = %d, want %d", at, m.at)
		}
		if e, at := r.Fault(); e != m.fault || at != m.began {
			t.Fatalf("Fault = %d, %d; want %d, %d", e, at, m.fault, m.began)
		}
	}
}

// checkReads opens bytes, and holds each reading, one behind the other, against what it must answer.
func checkReads(t *testing.T, b string, l ...reading) {
	t.Helper()
	r, m := pack.Open(b), &model{b: b}
	m.check(t, r)
	for i, c := range l {
		want := m.do(c)
		if got := c.do(r); got != want {
			t.Fatalf("%.40q: the reading %d, %v: %v, want %v", b, i, c, got, want)
		}
		m.check(t, r)
	}
}

// readings are all kinds, right and wrong ones.
func readings() []reading {
	list := []reading{{kind: "Uint", most: 0}, {kind: "Uint", most: 1}, {kind: "Uint", most: 5}, {kind: "Uint", most: 127}, {kind: "Uint", most: 128}, {kind: "Uint", most: 1<<63 - 1}, {kind: "Uint", most: 1 << 63}, {kind: "Uint", most: math.MaxUint64}}
	for _, size := range sizes() {
		for _, kind := range []string{"Fixed", "Text", "Bits", "Raw"} {
			list = append(list, reading{kind: kind, size: size})
		}
	}
	return list
}

// P3.2, P3.3

func TestOpen(t *testing.T) {
	for _, b := range append(texts(), "\x80") {
		if pack.Open(b) == nil {
			t.Fatalf("Open(%q) is nil", b)
		}
		checkReads(t, b)
	}
}

// expect does one reading at the beginning of bytes, and holds its answer, its error and its place against what is written out.
func expect(t *testing.T, b string, c reading, want answer, e api.Errno, at int) *pack.Reader {
	t.Helper()
	r := pack.Open(b)
	if got := c.do(r); got != want {
		t.Errorf("%q, %v: %v, want %v", b, c, got, want)
	}
	if got, begin := r.Fault(); got != e || begin != 0 || r.At() != at {
		t.Errorf("%q, %v: Fault %d, %d; At %d", b, c, got, begin, r.At())
	}
	return r
}

func TestReadExamples(t *testing.T) {
	r := pack.Open("\xac\x02\x07")
	if n := r.Uint(300); n != 300 || r.At() != 2 {
		t.Errorf("Uint(300) = %d, At %d", n, r.At())
	}
	if n := r.Uint(6); n != 0 || r.At() != 2 {
		t.Errorf("Uint(6) = %d, At %d", n, r.At())
	}
	if e, at := r.Fault(); e != api.ErrLong || at != 2 {
		t.Errorf("Fault = %d, %d", e, at)
	}
	if n := r.Uint(9); n != 0 || r.End() != api.ErrLong {
		t.Errorf("Uint(9) = %d, End %d", n, r.End())
	}
	small := reading{kind: "Uint", most: 5}
	great := reading{kind: "Uint", most: math.MaxUint64}
	nine := strings.Repeat("\xff", 9)
	expect(t, "\x80\x00", small, answer{}, api.ErrForm, 0)
	expect(t, "\x80", small, answer{}, api.ErrEnd, 0)
	expect(t, "", small, answer{}, api.ErrEnd, 0)
	expect(t, nine+"\x01", great, answer{n: math.MaxUint64}, api.OK, 10)
	expect(t, nine+"\x02", great, answer{}, api.ErrForm, 0)
	expect(t, "\x02a", reading{kind: "Text", size: 9}, answer{}, api.ErrEnd, 0)
	expect(t, "\x02ab", reading{kind: "Text", size: 1}, answer{}, api.ErrLong, 0)
	r = expect(t, "\x01\x02\x03", reading{kind: "Bits", size: 12}, answer{a: api.Bits{Lo: 258}}, api.OK, 2)
	if e := r.End(); e != api.ErrRest {
		t.Errorf("End ahead of the last byte: %d", e)
	}
	if a := r.Bits(7); a != (api.Bits{Lo: 3}) || r.End() != api.OK {
		t.Errorf("Bits(7) = %v, End %d", a, r.End())
	}
	if e := pack.Open("").End(); e != api.OK {
		t.Errorf("End of nothing: %d", e)
	}
}

// TestReadByHand: what stands at the ends, written out.
func TestReadByHand(t *testing.T) {
	uint8s := func(n int) reading { return reading{kind: "Fixed", size: n} }
	text := func(n int) reading { return reading{kind: "Text", size: n} }
	bits := func(n int) reading { return reading{kind: "Bits", size: n} }
	raw := func(n int) reading { return reading{kind: "Raw", size: n} }
	great := reading{kind: "Uint", most: math.MaxUint64}
	for _, c := range []struct {
		b    string
		do   reading
		want answer
		e    api.Errno
		at   int
	}{
		{"\x07", reading{kind: "Uint", most: 7}, answer{n: 7}, api.OK, 1},
		{"\x08", reading{kind: "Uint", most: 7}, answer{}, api.ErrLong, 0},
		{"\x00", reading{kind: "Uint", most: 0}, answer{}, api.OK, 1},
		{"\x01", reading{kind: "Uint", most: 0}, answer{}, api.ErrLong, 0},
		{"\x80\x80\x00\x05", great, answer{}, api.ErrForm, 0},
		{"\xff\x00", reading{kind: "Uint", most: 0}, answer{}, api.ErrForm, 0},
		{strings.Repeat("\x80", 8) + "\x01", great, answer{n: 1 << 56}, api.OK, 9},
		{strings.Repeat("\x80", 9) + "\x00", great, answer{}, api.ErrForm, 0},
		{strings.Repeat("\x80", 9) + "\x01", great, answer{n: 1 << 63}, api.OK, 10},
		{strings.Repeat("\x80", 9) + "\x01", reading{kind: "Uint", most: 1<<63 - 1}, answer{}, api.ErrLong, 0},
		{strings.Repeat("\x80", 9) + "\x03", great, answer{}, api.ErrForm, 0},
		{strings.Repeat("\x80", 9) + "\x7f", great, answer{}, api.ErrForm, 0},
		{strings.Repeat("\x80", 9), great, answer{}, api.ErrEnd, 0},
		{strings.Repeat("\x80", 10), great, answer{}, api.ErrForm, 0},
		{strings.Repeat("\x80", 9) + "\x81\x01", great, answer{}, api.ErrForm, 0},
		{strings.Repeat("\xff", 11), great, answer{}, api.ErrForm, 0},
		{strings.Repeat("\xff", 1000), great, answer{}, api.ErrForm, 0},
		{"\x01\x02", uint8s(0), answer{}, api.ErrArg, 0},
		{"\x01\x02", uint8s(1), answer{n: 1}, api.OK, 1},
		{"\xf1\xf2\xf3\xf4\xf5\xf6\xf7\xf8\xf9", uint8s(8), answer{n: 0xf1f2f3f4f5f6f7f8}, api.OK, 8},
		{"\xf1\xf2\xf3\xf4\xf5\xf6\xf7", uint8s(8), answer{}, api.ErrEnd, 0},
		{"123456789", uint8s(9), answer{}, api.ErrArg, 0},
		{"", uint8s(9), answer{}, api.ErrArg, 0},
		{"\x00x", text(0), answer{}, api.OK, 1},
		{"\x01x", text(0), answer{}, api.ErrLong, 0},
		{"\x01x", text(1), answer{s: "x"}, api.OK, 2},
		{"\x01x", text(-1), answer{}, api.ErrArg, 0},
		{"", text(-1), answer{}, api.ErrArg, 0},
		{"", text(5), answer{}, api.ErrEnd, 0},
		{"\x01", text(5), answer{}, api.ErrEnd, 0},
		{"\x80\x00", text(5), answer{}, api.ErrForm, 0},
		{"\xff\xff\xff\xff\xff\xff\xff\xff\x7fx", text(math.MaxInt), answer{}, api.ErrEnd, 0},
		{"\x80\x80\x80\x80\x80\x80\x80\x80\x80\x01x", text(math.MaxInt), answer{}, api.ErrLong, 0},
		{"\x01", bits(0), answer{}, api.ErrWidth, 0},
		{"\x01", bits(1), answer{a: api.Bits{Lo: 1}}, api.OK, 1},
		{"\x02", bits(1), answer{}, api.ErrFit, 0},
		{"\x02", bits(9), answer{}, api.ErrEnd, 0},
		{"\x02\x00", bits(9), answer{}, api.ErrFit, 0},
		{"\x01\x00", bits(9), answer{a: api.Bits{Lo: 256}}, api.OK, 2},
		{strings.Repeat("\xff", 16), bits(128), answer{a: api.Bits{Hi: math.MaxUint64, Lo: math.MaxUint64}}, api.OK, 16},
		{strings.Repeat("\xff", 15), bits(128), answer{}, api.ErrEnd, 0},
		{strings.Repeat("\xff", 16), bits(127), answer{}, api.ErrFit, 0},
		{strings.Repeat("\xff", 17), bits(129), answer{}, api.ErrWidth, 0},
		{"", bits(129), answer{}, api.ErrWidth, 0},
		{"ab", raw(0), answer{}, api.OK, 0},
		{"", raw(0), answer{}, api.OK, 0},
		{"ab", raw(2), answer{s: "ab"}, api.OK, 2},
		{"ab", raw(3), answer{}, api.ErrEnd, 0},
		{"ab", raw(-1), answer{}, api.ErrArg, 0},
		{"ab", raw(math.MaxInt), answer{}, api.ErrEnd, 0},
		{"ab", raw(math.MinInt), answer{}, api.ErrArg, 0},
	} {
		expect(t, c.b, c.do, c.want, c.e, c.at)
	}
}

// TestShortBytes goes over all short bytes of a few kinds, with each reading, and over the place behind it with a second one.
func TestShortBytes(t *testing.T) {
	list := []string{""}
	for first, length := 0, 0; length < 4; length++ {
		end := len(list)
		for _, s := range list[first:end] {
			for _, c := range []string{"\x00", "\x01", "\x02", "\x7f", "\x80", "\x81", "\xff"} {
				list = append(list, s+c)
			}
		}
		first = end
	}
	for _, b := range list {
		for _, c := range readings() {
			checkReads(t, b, c, reading{kind: "Uint", most: 127}, reading{kind: "Raw", size: 1})
		}
	}
}

// TestNumbers goes over the bytes of numbers of each length, whole, cut, and with a byte changed or put behind, at the most that they may be and one below it.
func TestNumbers(t *testing.T) {
	for _, n := range numbers() {
		b := uvarint(n)
		list := []string{b, b + "\x00", b + "\xff", b + "\x01"}
		for i := range len(b) {
			list = append(list, b[:i])
			for _, c := range []string{"\x00", "\x01", "\x02", "\x7f", "\x80", "\x81", "\xff"} {
				list = append(list, b[:i]+c+b[i+1:], b[:i]+c+b[i:])
			}
		}
		for _, s := range list {
			for _, most := range []uint64{n, n - 1, n + 1, 0, math.MaxUint64} {
				checkReads(t, s, reading{kind: "Uint", most: most}, reading{kind: "Raw", size: 1})
				if int(most) >= 0 {
					checkReads(t, s, reading{kind: "Text", size: int(most)}, reading{kind: "Raw", size: 1})
				}
			}
		}
	}
}

// TestTenBytes goes over rows of eight to twelve bytes above 127 with each byte behind them.
func TestTenBytes(t *testing.T) {
	for _, ahead := range []string{"\x80", "\xff", "\xa5"} {
		for count := 7; count <= 12; count++ {
			row := strings.Repeat(ahead, count)
			checkReads(t, row, reading{kind: "Uint", most: math.MaxUint64})
			for last := range 256 {
				b := row + string([]byte{byte(last)})
				checkReads(t, b, reading{kind: "Uint", most: math.MaxUint64})
				checkReads(t, b, reading{kind: "Uint", most: 1 << 62})
				checkReads(t, b+"\x01", reading{kind: "Text", size: 1 << 40})
			}
		}
	}
}

// TestWidths reads values of every width, of bytes that just fit and just do not, whole and a byte short.
func TestWidths(t *testing.T) {
	for _, width := range widths() {
		count := 17
		if width >= 1 && width <= 128 {
			count = (width + 7) / 8
		}
		for high := range 256 {
			b := string([]byte{byte(high)}) + strings.Repeat("\xa5", count-1)
			checkReads(t, b, reading{kind: "Bits", size: width}, reading{kind: "Raw", size: 1})
			checkReads(t, b+"x", reading{kind: "Bits", size: width}, reading{kind: "Raw", size: 1})
			checkReads(t, b[1:], reading{kind: "Bits", size: width}, reading{kind: "Raw", size: 1})
		}
	}
}

// TestFirstErrorOfReader: behind an error every reading answers zero and goes nowhere, and no other error takes its place.
func TestFirstErrorOfReader(t *testing.T) {
	b := "\x01\x02\x80\x00\x01\x01\x01\x01\x01\x01\x01\x01\x01\x01\x01\x01\x01\x01\x01\x01"
	wrong := 0
	for _, first := range readings() {
		if _, _, e := first.want(b[2:]); e == api.OK {
			continue
		}
		wrong++
		for _, c := range readings() {
			checkReads(t, b, reading{kind: "Raw", size: 2}, first, c, first, reading{kind: "Raw", size: 1})
		}
	}
	if wrong < 20 {
		t.Fatalf("%d readings are wrong", wrong)
	}
}

// TestEnd: ahead of the last byte, behind it, and behind an error there; ErrRest is not kept.
func TestEnd(t *testing.T) {
	r := pack.Open("ab")
	for i, want := range []api.Errno{api.ErrRest, api.ErrRest, api.OK} {
		if e := r.End(); e != want {
			t.Errorf("End at %d: %d", i, e)
		}
		if e, at := r.Fault(); e != api.OK || at != 0 {
			t.Errorf("Fault at %d: %d, %d", i, e, at)
		}
		if i < 2 && r.Raw(1) != "ab"[i:i+1] {
			t.Errorf("Raw at %d", i)
		}
	}
	if r.Raw(1) != "" || r.End() != api.ErrEnd {
		t.Errorf("End behind an error at the end: %d", r.End())
	}
	if e, at := r.Fault(); e != api.ErrEnd || at != 2 {
		t.Errorf("Fault at the end: %d, %d", e, at)
	}
}

// TestReaderScripts: rows of readings over any bytes.
func TestReaderScripts(t *testing.T) {
	d := rand.New(rand.NewSource(4))
	all := readings()
	for range 20000 {
		b := drawn(d, d.Intn(40))
		var l []reading
		m := &model{b: b}
		for range 1 + d.Intn(12) {
			c := all[d.Intn(len(all))]
			if _, _, e := c.want(b[m.at:]); e != api.OK && d.Intn(6) > 0 {
				continue
			}
			m.do(c)
			l = append(l, c)
		}
		checkReads(t, b, l...)
	}
}

// drawn are n bytes, many of them small or at the ends.
func drawn(d *rand.Rand, n int) string {
	b := make([]byte, n)
	for i := range b {
		b[i] = []byte{byte(d.Intn(256)), byte(d.Intn(4)), 127, 128, 255}[d.Intn(5)]
	}
	return string(b)
}

// TestTwoReaders: they have nothing to do with one another, though they read the same bytes (R4).
func TestTwoReaders(t *testing.T) {
	b := "\x01x\x02yz"
	one, two := pack.Open(b), pack.Open(b)
	if one.Text(9) != "x" || two.At() != 0 || two.Fixed(9) != 0 || one.Text(9) != "yz" || one.End() != api.OK || two.End() != api.ErrArg || two.At() != 0 {
		t.Errorf("the one at %d, %d; the other at %d, %d", one.At(), one.End(), two.At(), two.End())
	}
}

// TestNewMemory: a text that is answered shares no memory with the bytes that were opened, nor with another answer (R3).
func TestNewMemory(t *testing.T) {
	b := strings.Repeat("\x04text", 8)
	begin := uintptr(unsafe.Pointer(unsafe.StringData(b)))
	var seen []uintptr
	for range 2 {
		r := pack.Open(b)
		for range 4 {
			for _, s := range []string{r.Text(9), r.Raw(5)} {
				at := uintptr(unsafe.Pointer(unsafe.StringData(s)))
				if at >= begin && at < begin+uintptr(len(b)) || slices.Contains(seen, at) {
					t.Fatalf("%q shares memory", s)
				}
				seen = append(seen, at)
				kept = append(kept, s)
			}
		}
	}
}

// kept holds texts, so that their memory is not used anew.
var kept []string

// P3.4

func TestNilReader(t *testing.T) {
	for _, c := range readings() {
		var r *pack.Reader
		if got := c.do(r); got != (answer{}) {
			t.Fatalf("a nil reader, %v: %v", c, got)
		}
		if e, at := r.Fault(); r.At() != 0 || e != api.ErrArg || at != 0 || r.End() != api.ErrArg {
			t.Fatalf("a nil reader behind %v: At %d, Fault %d, %d, End %d", c, r.At(), e, at, r.End())
		}
	}
}
