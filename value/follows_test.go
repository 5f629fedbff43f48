package value_test

import (
	"cmp"
	"testing"

	"turnout/api"
	"turnout/value"
)

// P1.6

// pairs hands over all pairs of values below 2^7 in the widths 1 to 6 (so some do not fit), and pairs of great ones in all widths.
func pairs(f func(a, b api.Bits, width int)) {
	for width := 1; width <= 6; width++ {
		for a := range uint64(128) {
			for b := range uint64(128) {
				f(lo(a), lo(b), width)
			}
		}
	}
	for width := 1; width <= 128; width++ {
		for _, a := range fewer() {
			for _, b := range fewer() {
				f(a, b, width)
			}
		}
	}
}

func TestAddOfSub(t *testing.T) {
	pairs(func(a, b api.Bits, width int) {
		if value.Add(value.Sub(a, b, width), b, width) != value.Cut(a, width) {
			t.Fatalf("Add(Sub(%v, %v), %v) in %d", a, b, b, width)
		}
	})
}

func TestBitsOfSum(t *testing.T) {
	pairs(func(a, b api.Bits, width int) {
		sum := value.Add(a, b, width)
		carry := false
		for i := width - 1; i >= 0; i-- {
			x, y := value.Bit(a, width, i), value.Bit(b, width, i)
			if want := (x != y) != carry; value.Bit(sum, width, i) != want {
				t.Fatalf("the bit %d of Add(%v, %v, %d)", i, a, b, width)
			}
			carry = x && y || carry && (x || y)
		}
	})
}

func TestCommonAndCompare(t *testing.T) {
	pairs(func(a, b api.Bits, width int) {
		n := value.Common(a, b, width)
		x, y := value.Cut(a, width), value.Cut(b, width)
		if (n == width) != (x == y) {
			t.Fatalf("Common(%v, %v, %d) = %d", a, b, width, n)
		}
		if n == width {
			return
		}
		want := -1
		if value.Bit(a, width, n) {
			want = 1
		}
		if value.Bit(a, width, n) == value.Bit(b, width, n) || value.Compare(x, y) != want {
			t.Fatalf("Compare of %v and %v in %d does not go by the bit %d", a, b, width, n)
		}
	})
}

func TestParseOfText(t *testing.T) {
	for width := 1; width <= 128; width++ {
		for _, a := range samples() {
			a = value.Cut(a, width)
			for _, form := range forms() {
				if !has(form, width) {
					continue
				}
				s, e := value.Text(a, width, form)
				if e != api.OK {
					t.Fatalf("Text(%v, %d, %d): %d", a, width, form, e)
				}
				if got, e := value.Parse(s, width); got != a || e != api.OK {
					t.Fatalf("Parse(%q, %d) = %v, %d", s, width, got, e)
				}
			}
		}
	}
}

func TestFromOfBytes(t *testing.T) {
	for width := 1; width <= 128; width++ {
		for _, a := range samples() {
			a = value.Cut(a, width)
			s, e := value.Bytes(a, width)
			if e != api.OK {
				t.Fatalf("Bytes(%v, %d): %d", a, width, e)
			}
			if got, e := value.From(s, width); got != a || e != api.OK {
				t.Fatalf("From(%q, %d) = %v, %d", s, width, got, e)
			}
		}
	}
}

func TestOrderOfBytes(t *testing.T) {
	pairs(func(a, b api.Bits, width int) {
		a, b = value.Cut(a, width), value.Cut(b, width)
		s, e := value.Bytes(a, width)
		u, e2 := value.Bytes(b, width)
		if e != api.OK || e2 != api.OK || cmp.Compare(s, u) != value.Compare(a, b) {
			t.Fatalf("the Bytes of %v and %v in %d: %q, %q", a, b, width, s, u)
		}
	})
}
