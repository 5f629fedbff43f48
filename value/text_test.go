package value_test

import (
	"fmt"
	"math"
	"math/big"
	"regexp"
	"strings"
	"testing"

	"turnout/api"
	"turnout/value"
)

// forms are all of them.
func forms() []int { return []int{value.Dec, value.Hex, value.Bin, value.Dots, value.Colons} }

// has is the column 'widths' of the forms' table.
func has(form, width int) bool {
	switch form {
	case value.Dots:
		return width == 32
	case value.Colons:
		return width >= 16 && width <= 128 && width%8 == 0
	}
	return width >= 1 && width <= 128
}

// wantText is the text of a value that fits, in a form that has the width.
func wantText(a api.Bits, width, form int) string {
	switch form {
	case value.Hex:
		return fmt.Sprintf("0x%x", toBig(a))
	case value.Bin:
		return fmt.Sprintf("0b%b", toBig(a))
	case value.Dots:
		return fmt.Sprintf("%d.%d.%d.%d", a.Lo>>24, a.Lo>>16&255, a.Lo>>8&255, a.Lo&255)
	case value.Colons:
		var pairs []string
		for _, b := range []byte(base256(a, width)) {
			pairs = append(pairs, fmt.Sprintf("%02x", b))
		}
		return strings.Join(pairs, ":")
	}
	return toBig(a).String()
}

// P1.5

func TestFormNumbers(t *testing.T) {
	for i, form := range forms() {
		if form != i+1 {
			t.Errorf("the form %d has the number %d", i+1, form)
		}
	}
}

func TestText(t *testing.T) {
	for _, c := range []struct {
		a           api.Bits
		width, form int
		want        string
		e           api.Errno
	}{{lo(167772161), 32, value.Dots, "10.0.0.1", api.OK}, {lo(27), 16, value.Colons, "00:1b", api.OK}, {lo(27), 8, value.Colons, "", api.ErrWidth}, {lo(256), 8, value.Hex, "", api.ErrFit}, {lo(0), 8, value.Bin, "0b0", api.OK}, {lo(0), 8, 6, "", api.ErrArg}, {lo(0), 8, value.Dec, "0", api.OK}, {lo(0), 8, value.Hex, "0x0", api.OK}, {lo(1 << 32), 32, value.Dots, "", api.ErrFit}, {lo(1 << 32), 33, value.Dots, "", api.ErrWidth}} {
		if s, e := value.Text(c.a, c.width, c.form); s != c.want || e != c.e {
			t.Errorf("Text(%v, %d, %d) = %q, %d", c.a, c.width, c.form, s, e)
		}
	}
	for _, a := range samples() {
		for width := -1; width <= 130; width++ {
			for _, form := range forms() {
				want, wantErr := "", api.OK
				switch {
				case !has(form, width):
					wantErr = api.ErrWidth
				case toBig(a).Cmp(power(width)) >= 0:
					wantErr = api.ErrFit
				default:
					want = wantText(a, width, form)
				}
				if s, e := value.Text(a, width, form); s != want || e != wantErr {
					t.Fatalf("Text(%v, %d, %d) = %q, %d", a, width, form, s, e)
				}
			}
		}
	}
}

func TestTextWrong(t *testing.T) {
	for _, a := range fewer() {
		for _, width := range append(noWidths(), 1, 8, 32, 128) {
			for _, form := range []int{0, -1, 6, 7, math.MinInt, math.MaxInt} {
				if s, e := value.Text(a, width, form); s != "" || e != api.ErrArg {
					t.Fatalf("Text(%v, %d, %d) = %q, %d", a, width, form, s, e)
				}
			}
		}
		for _, width := range noWidths() {
			for _, form := range forms() {
				if s, e := value.Text(a, width, form); s != "" || e != api.ErrWidth {
					t.Fatalf("Text(%v, %d, %d) = %q, %d", a, width, form, s, e)
				}
			}
		}
	}
}

func TestParse(t *testing.T) {
	for _, c := range []struct {
		s     string
		width int
		want  api.Bits
		e     api.Errno
	}{
		{"10.0.0.1", 32, lo(167772161), api.OK}, {"10.0.0.1", 33, lo(0), api.ErrValue}, {"10.0.0.256", 32, lo(0), api.ErrValue}, {"10.0.0", 32, lo(0), api.ErrValue},
		{"00:1b", 16, lo(27), api.OK}, {"00:1B", 16, lo(0), api.ErrValue}, {"0:1b", 16, lo(0), api.ErrValue}, {"00:1b", 24, lo(0), api.ErrValue},
		{"0x1f", 5, lo(31), api.OK}, {"0x1F", 5, lo(0), api.ErrValue}, {"0x01", 5, lo(0), api.ErrValue}, {"0x20", 5, lo(0), api.ErrFit}, {"007", 8, lo(0), api.ErrValue}, {"", 8, lo(0), api.ErrValue}, {"-1", 8, lo(0), api.ErrValue},
		{"1" + strings.Repeat("0", 40), 128, lo(0), api.ErrFit},
		{"0", 1, lo(0), api.OK}, {"0x0", 1, lo(0), api.OK}, {"0b0", 1, lo(0), api.OK}, {"00", 8, lo(0), api.ErrValue}, {"0x00", 8, lo(0), api.ErrValue}, {"0b00", 8, lo(0), api.ErrValue}, {"0b01", 8, lo(0), api.ErrValue},
		{"0x", 8, lo(0), api.ErrValue}, {"0b", 8, lo(0), api.ErrValue}, {"0b2", 8, lo(0), api.ErrValue}, {"0X1", 8, lo(0), api.ErrValue}, {"0B1", 8, lo(0), api.ErrValue}, {"0o7", 8, lo(0), api.ErrValue}, {"0xg", 8, lo(0), api.ErrValue}, {"a", 8, lo(0), api.ErrValue},
		{"+1", 8, lo(0), api.ErrValue}, {" 1", 8, lo(0), api.ErrValue}, {"1 ", 8, lo(0), api.ErrValue}, {"1\n", 8, lo(0), api.ErrValue}, {"1_0", 8, lo(0), api.ErrValue}, {"\xff", 8, lo(0), api.ErrValue}, {"1\x00", 8, lo(0), api.ErrValue}, {"\u0661", 8, lo(0), api.ErrValue}, {"\u0131", 8, lo(0), api.ErrValue}, {"1\xb1", 8, lo(0), api.ErrValue},
		{"0b1:0b", 32, lo(0), api.ErrValue}, {"0b:0b", 16, lo(0x0b0b), api.OK}, {"0b:0b", 32, lo(0), api.ErrValue}, {"0x:00", 16, lo(0), api.ErrValue}, {"00:1b:", 16, lo(0), api.ErrValue}, {"00:1b:00", 24, lo(0x1b00), api.OK}, {":00:1", 16, lo(0), api.ErrValue}, {"00.1b", 16, lo(0), api.ErrValue}, {"0001b", 16, lo(0), api.ErrValue}, {"1b", 8, lo(0), api.ErrValue},
		{"1\u00e9:00", 24, lo(0), api.ErrValue}, {"\u00e9:00", 16, lo(0), api.ErrValue}, {"00\u00e91", 16, lo(0), api.ErrValue},
		{"0.0.0.0", 32, lo(0), api.OK}, {"255.255.255.255", 32, lo(1<<32 - 1), api.OK}, {"1.2.3.", 32, lo(0), api.ErrValue}, {".1.2.3", 32, lo(0), api.ErrValue}, {"1..2.3", 32, lo(0), api.ErrValue}, {"1.2.3.4.5", 32, lo(0), api.ErrValue}, {"1.2.3.4.", 32, lo(0), api.ErrValue}, {"01.2.3.4", 32, lo(0), api.ErrValue}, {"0x1.2.3.4", 32, lo(0), api.ErrValue}, {"256.0.0.0", 32, lo(0), api.ErrValue}, {"1.2.3.4", 31, lo(0), api.ErrValue}, {"1." + strings.Repeat("9", 60) + ".3.4", 32, lo(0), api.ErrValue}, {"1.2.3.18446744073709551617", 32, lo(0), api.ErrValue}, {"....", 32, lo(0), api.ErrValue}, {"...", 32, lo(0), api.ErrValue},
		{"16909060", 32, lo(0x01020304), api.OK}, {"0x01:02", 16, lo(0), api.ErrValue},
	} {
		if a, e := value.Parse(c.s, c.width); a != c.want || e != c.e {
			t.Errorf("Parse(%q, %d) = %v, %d", c.s, c.width, a, e)
		}
	}
}

func TestParseNoWidth(t *testing.T) {
	for _, width := range noWidths() {
		for _, s := range []string{"", "0", "7", "0x1f", "10.0.0.1", "00:1b", "x", strings.Repeat("9", 100)} {
			if a, e := value.Parse(s, width); a != lo(0) || e != api.ErrWidth {
				t.Errorf("Parse(%q, %d) = %v, %d", s, width, a, e)
			}
		}
	}
}

// TestParseGreat: numbers that just fit and just do not, in each width, and numbers of more digits than any value has.
func TestParseGreat(t *testing.T) {
	for width := 1; width <= 128; width++ {
		most := new(big.Int).Sub(power(width), big.NewInt(1))
		for _, layout := range []string{"%d", "0x%x", "0b%b"} {
			if a, e := value.Parse(fmt.Sprintf(layout, most), width); a != fromBig(most) || e != api.OK {
				t.Fatalf("Parse of "+layout+" in %d = %v, %d", most, width, a, e)
			}
			for _, n := range []*big.Int{power(width), power(128), new(big.Int).Add(power(128), big.NewInt(1)), power(129), power(192), power(256), power(1000)} {
				if a, e := value.Parse(fmt.Sprintf(layout, n), width); a != lo(0) || e != api.ErrFit {
					t.Fatalf("Parse of "+layout+" in %d = %v, %d", n, width, a, e)
				}
			}
		}
	}
	for _, s := range []string{strings.Repeat("9", 100000), "0x" + strings.Repeat("f", 33), "0x1" + strings.Repeat("0", 32), "0b1" + strings.Repeat("0", 128), "0x" + strings.Repeat("1", 100000), "0b" + strings.Repeat("1", 100000)} {
		if a, e := value.Parse(s, 128); a != lo(0) || e != api.ErrFit {
			t.Errorf("Parse(%.20q.., 128) = %v, %d", s, a, e)
		}
		for _, wrong := range []string{s + "g", s + ".", s + " ", s + "\xff"} {
			if a, e := value.Parse(wrong, 128); a != lo(0) || e != api.ErrValue {
				t.Errorf("Parse(%.20q.. with a wrong end, 128) = %v, %d", s, a, e)
			}
		}
	}
}

var (
	decForm    = regexp.MustCompile(`^(0|[1-9][0-9]*)$`)
	hexForm    = regexp.MustCompile(`^0x(0|[1-9a-f][0-9a-f]*)$`)
	binForm    = regexp.MustCompile(`^0b(0|1[01]*)$`)
	dotsForm   = regexp.MustCompile(`^(0|[1-9][0-9]*)(\.(0|[1-9][0-9]*)){3}$`)
	colonsForm = regexp.MustCompile(`^[0-9a-f]{2}(:[0-9a-f]{2})*$`)
)

// read is what Parse must answer of a width that there is, worked out by patterns.
func read(s string, width int) (api.Bits, api.Errno) {
	n := new(big.Int)
	switch {
	case decForm.MatchString(s):
		n.SetString(s, 10)
	case hexForm.MatchString(s):
		n.SetString(s[2:], 16)
	case binForm.MatchString(s):
		n.SetString(s[2:], 2)
	case has(value.Dots, width) && dotsForm.MatchString(s):
		for _, part := range strings.Split(s, ".") {
			b, _ := new(big.Int).SetString(part, 10)
			if b.Cmp(big.NewInt(255)) > 0 {
				return api.Bits{}, api.ErrValue
			}
			n.Add(n.Lsh(n, 8), b)
		}
	case has(value.Colons, width) && colonsForm.MatchString(s) && len(s) == width/8*3-1:
		n.SetString(strings.ReplaceAll(s, ":", ""), 16)
	default:
		return api.Bits{}, api.ErrValue
	}
	if n.Cmp(power(width)) >= 0 {
		return api.Bits{}, api.ErrFit
	}
	return fromBig(n), api.OK
}

func checkParse(t *testing.T, s string, width int) {
	t.Helper()
	want, wantErr := read(s, width)
	if a, e := value.Parse(s, width); a != want || e != wantErr {
		t.Fatalf("Parse(%q, %d) = %v, %d; want %v, %d", s, width, a, e, want, wantErr)
	}
}

// TestParseShort goes over all short texts of the bytes that the forms are made of, and some others.
func TestParseShort(t *testing.T) {
	texts := []string{""}
	for first, length := 0, 0; length < 5; length++ {
		end := len(texts)
		for _, s := range texts[first:end] {
			for _, c := range []string{"0", "1", "2", "9", "a", "b", "x", ".", ":", "g"} {
				texts = append(texts, s+c)
			}
		}
		first = end
	}
	for _, s := range texts {
		for _, width := range []int{1, 5, 8, 16, 32} {
			checkParse(t, s, width)
		}
	}
}

// TestParseChanged changes each byte of right texts, takes it out, and puts another ahead of it.
func TestParseChanged(t *testing.T) {
	for _, width := range []int{1, 7, 8, 16, 24, 31, 32, 33, 64, 65, 120, 127, 128} {
		for _, a := range fewer() {
			a = value.Cut(a, width)
			for _, form := range forms() {
				if !has(form, width) {
					continue
				}
				s := wantText(a, width, form)
				for i := range len(s) {
					checkParse(t, s[:i]+s[i+1:], width)
					for _, c := range []string{"0", "1", "9", "b", "f", "F", "g", "x", ".", ":", "-", " ", "\x00", "\xff", "\u00e9"} {
						checkParse(t, s[:i]+c+s[i+1:], width)
						checkParse(t, s[:i]+c+s[i:], width)
					}
				}
			}
		}
	}
}
