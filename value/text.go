package value

import (
	"math/bits"
	"slices"
	"strings"

	"turnout/api"
)

// The forms of a value's text.
const (
	Dec    = iota + 1 // digits
	Hex               // 0x and sixteenths
	Bin               // 0b and bits
	Dots              // four numbers of a byte, of 32 bits
	Colons            // pairs of sixteenths, of whole bytes
)

const (
	hexMark = "0x"
	binMark = "0b"
)

// dotsWidth is the one width that Dots has.
const dotsWidth = 32

var sixteenths = [16]byte{'0', '1', '2', '3', '4', '5', '6', '7', '8', '9', 'a', 'b', 'c', 'd', 'e', 'f'}

// isForm tells whether there is such a form.
func isForm(form int) bool { return Dec <= form && form <= Colons }

// formHas tells whether a form has a width.
func formHas(form, width int) bool {
	switch form {
	case Dots:
		return width == dotsWidth
	case Colons:
		return isWidth(width) && width >= 16 && width%8 == 0
	}
	return isWidth(width)
}

// Text is a value's text in a form.
func Text(a api.Bits, width, form int) (string, api.Errno) {
	if !isForm(form) {
		return "", api.ErrArg
	}
	if !formHas(form, width) {
		return "", api.ErrWidth
	}
	if !Fits(a, width) {
		return "", api.ErrFit
	}
	switch form {
	case Hex:
		return hexMark + digits(a, 16), api.OK
	case Bin:
		return binMark + digits(a, 2), api.OK
	case Dots:
		return dots(a), api.OK
	case Colons:
		return colons(a, byteCount(width)), api.OK
	}
	return digits(a, 10), api.OK
}

// digits is a value's text in a base from 2 to 16, without a nought ahead.
func digits(a api.Bits, base uint64) string {
	var out []byte
	for {
		var digit uint64
		a, digit = divide(a, base)
		out = append(out, sixteenths[digit])
		if a == (api.Bits{}) {
			break
		}
	}
	slices.Reverse(out)
	return string(out)
}

// divide is how often a number, above 0, goes into a value, and what is left.
func divide(a api.Bits, by uint64) (api.Bits, uint64) {
	hi, over := a.Hi/by, a.Hi%by
	lo, rest := bits.Div64(over, a.Lo, by)
	return api.Bits{Hi: hi, Lo: lo}, rest
}

// dots is the text of a value's four lowest bytes.
func dots(a api.Bits) string {
	out := ""
	for at := 3; at >= 0; at-- {
		out += digits(api.Bits{Lo: uint64(byteAt(a, at))}, 10)
		if at > 0 {
			out += "."
		}
	}
	return out
}

// colons is the text of a value's n lowest bytes.
func colons(a api.Bits, n int) string {
	var out []byte
	for at := n - 1; at >= 0; at-- {
		b := byteAt(a, at)
		out = append(out, sixteenths[b>>4], sixteenths[b&15])
		if at > 0 {
			out = append(out, ':')
		}
	}
	return string(out)
}

// Parse reads a text of any form.
func Parse(s string, width int) (api.Bits, api.Errno) {
	if !isWidth(width) {
		return api.Bits{}, api.ErrWidth
	}
	if formHas(Colons, width) {
		if a, ok := fromColons(s, byteCount(width)); ok {
			return a, api.OK
		}
	}
	if formHas(Dots, width) {
		if a, ok := fromDots(s); ok {
			return a, api.OK
		}
	}
	a, e := fromNumber(s)
	if e != api.OK {
		return api.Bits{}, e
	}
	if !Fits(a, width) {
		return api.Bits{}, api.ErrFit
	}
	return a, api.OK
}

// fromNumber reads a text as Dec, Hex or Bin has it: ErrValue, if it is none; ErrFit, if no width has its number.
func fromNumber(s string) (api.Bits, api.Errno) {
	if rest, ok := strings.CutPrefix(s, hexMark); ok {
		return fromDigits(rest, 16)
	}
	if rest, ok := strings.CutPrefix(s, binMark); ok {
		return fromDigits(rest, 2)
	}
	return fromDigits(s, 10)
}

// fromDigits reads the digits of a base, without a nought ahead, with the errors of fromNumber.
func fromDigits(s string, base uint64) (api.Bits, api.Errno) {
	if s == "" || len(s) > 1 && s[0] == '0' {
		return api.Bits{}, api.ErrValue
	}
	var a api.Bits
	great := false
	for _, r := range s {
		digit, ok := digitOf(r, base)
		if !ok {
			return api.Bits{}, api.ErrValue
		}
		// The rest is gone through all the same: a wrong digit there tells before the size does.
		if !great {
			a, great = withDigit(a, base, digit)
		}
	}
	if great {
		return api.Bits{}, api.ErrFit
	}
	return a, api.OK
}

// digitOf is what a digit of a base is worth, if it is one.
func digitOf(r rune, base uint64) (uint64, bool) {
	for digit := range base {
		if r == rune(sixteenths[digit]) {
			return digit, true
		}
	}
	return 0, false
}

// withDigit is a value with a digit behind it, and whether that needs more than 128 bits.
func withDigit(a api.Bits, base, digit uint64) (api.Bits, bool) {
	up, lo := bits.Mul64(a.Lo, base)
	over, hi := bits.Mul64(a.Hi, base)
	lo, carry := bits.Add64(lo, digit, 0)
	hi, carry = bits.Add64(hi, up, carry)
	return api.Bits{Hi: hi, Lo: lo}, over != 0 || carry != 0
}

// fromDots reads a text of Dots.
func fromDots(s string) (api.Bits, bool) {
	// One part more than may be is enough to tell a text that has too many.
	parts := strings.SplitN(s, ".", 5)
	if len(parts) != 4 {
		return api.Bits{}, false
	}
	var a api.Bits
	for _, part := range parts {
		b, e := fromDigits(part, 10)
		if e != api.OK || !Fits(b, 8) {
			return api.Bits{}, false
		}
		a.Lo = a.Lo<<8 | b.Lo
	}
	return a, true
}

// fromColons reads a text of Colons of n bytes.
func fromColons(s string, n int) (api.Bits, bool) {
	if len(s) != 3*n-1 {
		return api.Bits{}, false
	}
	var a api.Bits
	for i, r := range s {
		if i%3 == 2 {
			if r != ':' {
				return api.Bits{}, false
			}
			continue
		}
		digit, ok := digitOf(r, 16)
		if !ok {
			return api.Bits{}, false
		}
		a, _ = withDigit(a, 16, digit)
	}
	return a, true
}
