package value_test

import (
	"math"
	"math/big"
	"testing"

	"turnout/api"
	"turnout/value"
)

const full = math.MaxUint64

func lo(n uint64) api.Bits { return api.Bits{Lo: n} }

// toBig and fromBig lead to numbers of any size, by which the tests work out what is asked.
func toBig(a api.Bits) *big.Int {
	n := new(big.Int).SetUint64(a.Hi)
	n.Lsh(n, 64)
	return n.Or(n, new(big.Int).SetUint64(a.Lo))
}

func fromBig(n *big.Int) api.Bits {
	low := new(big.Int).SetUint64(full)
	return api.Bits{Hi: new(big.Int).Rsh(n, 64).Uint64(), Lo: low.And(low, n).Uint64()}
}

// power is 2^n.
func power(n int) *big.Int { return new(big.Int).Lsh(big.NewInt(1), uint(n)) }

// modulo is n modulo 2^width, from 0 on.
func modulo(n *big.Int, width int) api.Bits { return fromBig(new(big.Int).Mod(n, power(width))) }

// noWidths are no widths.
func noWidths() []int {
	return []int{0, -1, -8, -64, 129, 130, 136, 192, 256, math.MinInt, math.MinInt + 1, math.MaxInt, math.MaxInt - 7}
}

// samples are values at all ends: each power of 2, its neighbours, and some patterns.
func samples() []api.Bits {
	list := []api.Bits{lo(0), lo(10), lo(9), lo(250), {Hi: full, Lo: full}, {Hi: full}, {Hi: 0xaaaa_aaaa_aaaa_aaaa, Lo: 0x5555_5555_5555_5555}, {Hi: 0x0123_4567_89ab_cdef, Lo: 0xfedc_ba98_7654_3210}}
	for n := 0; n < 128; n++ {
		p := power(n)
		list = append(list, fromBig(p), fromBig(new(big.Int).Sub(p, big.NewInt(1))), fromBig(new(big.Int).Add(p, big.NewInt(1))))
	}
	return list
}

// fewer are samples for tests that go over pairs of them in every width.
func fewer() []api.Bits {
	return []api.Bits{lo(0), lo(1), lo(2), lo(9), lo(10), lo(26), lo(1 << 63), lo(full - 1), lo(full), {Hi: 1}, {Hi: 1, Lo: 1}, {Hi: 1, Lo: full}, {Hi: 1 << 63}, {Hi: 1 << 63, Lo: 1}, {Hi: full}, {Hi: full, Lo: full}, {Hi: full, Lo: full - 1}, {Hi: 0x0123_4567_89ab_cdef, Lo: 0xfedc_ba98_7654_3210}, {Hi: 0x0123_4567_89ab_cdef, Lo: 0xfedc_ba98_7654_3211}, {Hi: 0xaaaa_aaaa_aaaa_aaaa, Lo: 0x5555_5555_5555_5555}}
}

// P1.1

func TestFits(t *testing.T) {
	for _, c := range []struct {
		a     api.Bits
		width int
		want  bool
	}{{lo(255), 8, true}, {lo(256), 8, false}, {lo(0), 0, false}, {lo(1), 129, false}} {
		if got := value.Fits(c.a, c.width); got != c.want {
			t.Errorf("Fits(%v, %d) = %v", c.a, c.width, got)
		}
	}
	for _, a := range samples() {
		for width := 1; width <= 128; width++ {
			want := toBig(a).Cmp(power(width)) < 0
			if got := value.Fits(a, width); got != want {
				t.Fatalf("Fits(%v, %d) = %v", a, width, got)
			}
		}
		for _, width := range noWidths() {
			if value.Fits(a, width) {
				t.Fatalf("Fits(%v, %d)", a, width)
			}
		}
	}
}

func TestMost(t *testing.T) {
	if a, e := value.Most(65); a != (api.Bits{Hi: 1, Lo: full}) || e != api.OK {
		t.Errorf("Most(65) = %v, %d", a, e)
	}
	for width := 1; width <= 128; width++ {
		want := fromBig(new(big.Int).Sub(power(width), big.NewInt(1)))
		if a, e := value.Most(width); a != want || e != api.OK {
			t.Errorf("Most(%d) = %v, %d", width, a, e)
		}
	}
	for _, width := range noWidths() {
		if a, e := value.Most(width); a != lo(0) || e != api.ErrWidth {
			t.Errorf("Most(%d) = %v, %d", width, a, e)
		}
	}
}

func TestMask(t *testing.T) {
	for _, c := range []struct {
		width, n int
		want     api.Bits
		e        api.Errno
	}{{8, 3, lo(224), api.OK}, {128, 1, api.Bits{Hi: 1 << 63}, api.OK}, {8, 9, lo(0), api.ErrArg}, {8, 0, lo(0), api.OK}} {
		if got, e := value.Mask(c.width, c.n); got != c.want || e != c.e {
			t.Errorf("Mask(%d, %d) = %v, %d", c.width, c.n, got, e)
		}
	}
	for width := 1; width <= 128; width++ {
		for n := 0; n <= width; n++ {
			want := fromBig(new(big.Int).Sub(power(width), power(width-n)))
			if got, e := value.Mask(width, n); got != want || e != api.OK {
				t.Fatalf("Mask(%d, %d) = %v, %d", width, n, got, e)
			}
		}
		for _, n := range []int{-1, width + 1, -width, math.MinInt, math.MaxInt} {
			if got, e := value.Mask(width, n); got != lo(0) || e != api.ErrArg {
				t.Fatalf("Mask(%d, %d) = %v, %d", width, n, got, e)
			}
		}
	}
	for _, width := range noWidths() {
		for _, n := range []int{0, 1, -1, 128, 129, math.MinInt, math.MaxInt} {
			if got, e := value.Mask(width, n); got != lo(0) || e != api.ErrWidth {
				t.Fatalf("Mask(%d, %d) = %v, %d", width, n, got, e)
			}
		}
	}
}

// P1.2

func TestOrder(t *testing.T) {
	for _, a := range samples() {
		for _, b := range samples() {
			if got, want := value.Compare(a, b), toBig(a).Cmp(toBig(b)); got != want {
				t.Fatalf("Compare(%v, %v) = %d", a, b, got)
			}
		}
	}
}

func TestBitByBit(t *testing.T) {
	for _, c := range []struct {
		name string
		call func(a, b api.Bits) api.Bits
		want func(z, a, b *big.Int) *big.Int
	}{{"And", value.And, (*big.Int).And}, {"Or", value.Or, (*big.Int).Or}, {"Xor", value.Xor, (*big.Int).Xor}} {
		for _, a := range samples() {
			for _, b := range samples() {
				want := fromBig(c.want(new(big.Int), toBig(a), toBig(b)))
				if got := c.call(a, b); got != want {
					t.Fatalf("%s(%v, %v) = %v", c.name, a, b, got)
				}
			}
		}
	}
}

// P1.3

func TestSums(t *testing.T) {
	for _, c := range []struct {
		name      string
		got, want api.Bits
	}{
		{name: "Add(250, 10, 8)", got: value.Add(lo(250), lo(10), 8), want: lo(4)},
		{name: "Sub(0, 1, 4)", got: value.Sub(lo(0), lo(1), 4), want: lo(15)},
		{name: "Add(2^64 - 1, 1, 65)", got: value.Add(lo(full), lo(1), 65), want: api.Bits{Hi: 1}},
		{name: "Add(1, 1, 0)", got: value.Add(lo(1), lo(1), 0), want: lo(0)},
	} {
		if c.got != c.want {
			t.Errorf("%s = %v", c.name, c.got)
		}
	}
	for _, a := range fewer() {
		for _, b := range fewer() {
			sum := new(big.Int).Add(toBig(a), toBig(b))
			difference := new(big.Int).Sub(toBig(a), toBig(b))
			for width := 1; width <= 128; width++ {
				if got := value.Add(a, b, width); got != modulo(sum, width) {
					t.Fatalf("Add(%v, %v, %d) = %v", a, b, width, got)
				}
				if got := value.Sub(a, b, width); got != modulo(difference, width) {
					t.Fatalf("Sub(%v, %v, %d) = %v", a, b, width, got)
				}
			}
			for _, width := range noWidths() {
				if value.Add(a, b, width) != lo(0) || value.Sub(a, b, width) != lo(0) {
					t.Fatalf("Add or Sub of %v, %v, %d is not 0", a, b, width)
				}
			}
		}
	}
}

func TestCut(t *testing.T) {
	for _, a := range samples() {
		for width := 1; width <= 128; width++ {
			if got := value.Cut(a, width); got != modulo(toBig(a), width) {
				t.Fatalf("Cut(%v, %d) = %v", a, width, got)
			}
		}
		for _, width := range noWidths() {
			if got := value.Cut(a, width); got != lo(0) {
				t.Fatalf("Cut(%v, %d) = %v", a, width, got)
			}
		}
	}
}

func TestBit(t *testing.T) {
	for _, c := range []struct {
		a        api.Bits
		width, i int
		want     bool
	}{{lo(4), 3, 0, true}, {lo(4), 3, 1, false}, {lo(4), 3, 3, false}, {lo(12), 3, 0, true}} {
		if got := value.Bit(c.a, c.width, c.i); got != c.want {
			t.Errorf("Bit(%v, %d, %d) = %v", c.a, c.width, c.i, got)
		}
	}
	for _, a := range fewer() {
		for width := 1; width <= 128; width++ {
			for i := 0; i < width; i++ {
				want := toBig(a).Bit(width-1-i) == 1
				if got := value.Bit(a, width, i); got != want {
					t.Fatalf("Bit(%v, %d, %d) = %v", a, width, i, got)
				}
			}
			for _, i := range []int{-1, width, width + 1, -64, width - 129, math.MinInt, math.MaxInt} {
				if value.Bit(a, width, i) {
					t.Fatalf("Bit(%v, %d, %d)", a, width, i)
				}
			}
		}
		for _, width := range noWidths() {
			for _, i := range []int{-1, 0, 1, 63, 64, 127, 128, math.MinInt, math.MaxInt} {
				if value.Bit(a, width, i) {
					t.Fatalf("Bit(%v, %d, %d)", a, width, i)
				}
			}
		}
	}
}

// common counts bit by bit.
func common(a, b *big.Int, width int) int {
	n := 0
	for n < width && a.Bit(width-1-n) == b.Bit(width-1-n) {
		n++
	}
	return n
}

func TestCommon(t *testing.T) {
	for _, c := range []struct {
		a, b        api.Bits
		width, want int
	}{{lo(10), lo(9), 4, 2}, {lo(26), lo(10), 4, 4}, {lo(0), api.Bits{Hi: 1 << 63}, 128, 0}} {
		if got := value.Common(c.a, c.b, c.width); got != c.want {
			t.Errorf("Common(%v, %v, %d) = %d", c.a, c.b, c.width, got)
		}
	}
	for _, a := range fewer() {
		for _, b := range fewer() {
			for width := 1; width <= 128; width++ {
				want := common(toBig(a), toBig(b), width)
				if got := value.Common(a, b, width); got != want {
					t.Fatalf("Common(%v, %v, %d) = %d", a, b, width, got)
				}
			}
			for _, width := range noWidths() {
				if got := value.Common(a, b, width); got != 0 {
					t.Fatalf("Common(%v, %v, %d) = %d", a, b, width, got)
				}
			}
		}
	}
}

// P1.4

// base256 are the bytes of a width, by division.
func base256(a api.Bits, width int) string {
	return string(toBig(a).FillBytes(make([]byte, (width+7)/8)))
}

func TestBytes(t *testing.T) {
	if s, e := value.Bytes(lo(258), 12); s != "\x01\x02" || e != api.OK {
		t.Errorf("Bytes(258, 12) = %q, %d", s, e)
	}
	if s, e := value.Bytes(lo(4096), 12); s != "" || e != api.ErrFit {
		t.Errorf("Bytes(4096, 12) = %q, %d", s, e)
	}
	for _, a := range samples() {
		for width := 1; width <= 128; width++ {
			want, wantErr := "", api.ErrFit
			if toBig(a).Cmp(power(width)) < 0 {
				want, wantErr = base256(a, width), api.OK
			}
			if s, e := value.Bytes(a, width); s != want || e != wantErr {
				t.Fatalf("Bytes(%v, %d) = %q, %d", a, width, s, e)
			}
		}
		for _, width := range noWidths() {
			if s, e := value.Bytes(a, width); s != "" || e != api.ErrWidth {
				t.Fatalf("Bytes(%v, %d) = %q, %d", a, width, s, e)
			}
		}
	}
}

func TestFrom(t *testing.T) {
	for _, c := range []struct {
		b     string
		width int
		want  api.Bits
		e     api.Errno
	}{{"\x01\x02", 12, lo(258), api.OK}, {"\x10\x00", 12, lo(0), api.ErrFit}, {"\x02", 12, lo(0), api.ErrValue}, {"\xff\xff\xff", 12, lo(0), api.ErrValue}, {"", 8, lo(0), api.ErrValue}} {
		if a, e := value.From(c.b, c.width); a != c.want || e != c.e {
			t.Errorf("From(%q, %d) = %v, %d", c.b, c.width, a, e)
		}
	}
	for _, a := range samples() {
		for width := 1; width <= 128; width++ {
			room := (width + 7) / 8 * 8
			if toBig(a).Cmp(power(room)) >= 0 {
				continue
			}
			want, wantErr := a, api.OK
			if toBig(a).Cmp(power(width)) >= 0 {
				want, wantErr = lo(0), api.ErrFit
			}
			b := base256(a, width)
			if got, e := value.From(b, width); got != want || e != wantErr {
				t.Fatalf("From(%q, %d) = %v, %d", b, width, got, e)
			}
			for _, wrong := range []string{b[1:], b[:len(b)-1], b + "\x00", "\x00" + b} {
				if got, e := value.From(wrong, width); got != lo(0) || e != api.ErrValue {
					t.Fatalf("From(%q, %d) = %v, %d", wrong, width, got, e)
				}
			}
		}
		for _, width := range noWidths() {
			for _, b := range []string{"", "\x00", base256(a, 128), base256(a, 136)} {
				if got, e := value.From(b, width); got != lo(0) || e != api.ErrWidth {
					t.Fatalf("From(%q, %d) = %v, %d", b, width, got, e)
				}
			}
		}
	}
}
