// Package value is layer 1: values of up to 128 bits. See shared/doc/01-value.md.
package value

import (
	"cmp"
	"math/bits"

	"turnout/api"
)

// isWidth tells whether there is such a width.
func isWidth(width int) bool { return 1 <= width && width <= api.MaxWidth }

// ones is the value whose n lowest bits are 1; n is 0 to MaxWidth.
func ones(n int) api.Bits {
	if n <= 64 {
		return api.Bits{Lo: ^uint64(0) >> (64 - n)}
	}
	return api.Bits{Hi: ^uint64(0) >> (128 - n), Lo: ^uint64(0)}
}

// Fits tells whether a value is below 2^width.
func Fits(a api.Bits, width int) bool {
	return isWidth(width) && Cut(a, width) == a
}

// Most is the greatest value of a width.
func Most(width int) (api.Bits, api.Errno) {
	if !isWidth(width) {
		return api.Bits{}, api.ErrWidth
	}
	return ones(width), api.OK
}

// Mask is the value whose n highest bits of a width are 1.
func Mask(width, n int) (api.Bits, api.Errno) {
	if !isWidth(width) {
		return api.Bits{}, api.ErrWidth
	}
	if n < 0 || n > width {
		return api.Bits{}, api.ErrArg
	}
	return Xor(ones(width), ones(width-n)), api.OK
}

// Compare is -1, 0 or 1, as a is below b, the same, above.
func Compare(a, b api.Bits) int {
	if a.Hi != b.Hi {
		return cmp.Compare(a.Hi, b.Hi)
	}
	return cmp.Compare(a.Lo, b.Lo)
}

// And: bit by bit.
func And(a, b api.Bits) api.Bits { return api.Bits{Hi: a.Hi & b.Hi, Lo: a.Lo & b.Lo} }

// Or: bit by bit.
func Or(a, b api.Bits) api.Bits { return api.Bits{Hi: a.Hi | b.Hi, Lo: a.Lo | b.Lo} }

// Xor: bit by bit.
func Xor(a, b api.Bits) api.Bits { return api.Bits{Hi: a.Hi ^ b.Hi, Lo: a.Lo ^ b.Lo} }

// Cut is the value's lowest bits, as many as the width.
func Cut(a api.Bits, width int) api.Bits {
	if !isWidth(width) {
		return api.Bits{}
	}
	return And(a, ones(width))
}

// Add is the sum, cut to a width.
func Add(a, b api.Bits, width int) api.Bits {
	lo, carry := bits.Add64(a.Lo, b.Lo, 0)
	hi, _ := bits.Add64(a.Hi, b.Hi, carry)
	return Cut(api.Bits{Hi: hi, Lo: lo}, width)
}

// Sub is the difference, cut to a width.
func Sub(a, b api.Bits, width int) api.Bits {
	lo, borrow := bits.Sub64(a.Lo, b.Lo, 0)
	hi, _ := bits.Sub64(a.Hi, b.Hi, borrow)
	return Cut(api.Bits{Hi: hi, Lo: lo}, width)
}

// Bit tells whether the i-th highest bit (from 0 on) of a width is 1.
func Bit(a api.Bits, width, i int) bool {
	if !isWidth(width) || i < 0 || i >= width {
		return false
	}
	low := width - 1 - i
	if low >= 64 {
		return a.Hi>>(low-64)&1 == 1
	}
	return a.Lo>>low&1 == 1
}

// Common is how many of the highest bits of a width two values have in common.
func Common(a, b api.Bits, width int) int {
	if !isWidth(width) {
		return 0
	}
	return leading(Cut(Xor(a, b), width)) - (api.MaxWidth - width)
}

// leading is how many of a value's 128 bits are 0 ahead of its highest 1.
func leading(a api.Bits) int {
	if a.Hi != 0 {
		return bits.LeadingZeros64(a.Hi)
	}
	return 64 + bits.LeadingZeros64(a.Lo)
}

// byteCount is how many bytes hold a width.
func byteCount(width int) int { return (width + 7) / 8 }

// Bytes is a value of a width in whole bytes, the highest first.
func Bytes(a api.Bits, width int) (string, api.Errno) {
	if !isWidth(width) {
		return "", api.ErrWidth
	}
	if !Fits(a, width) {
		return "", api.ErrFit
	}
	n := byteCount(width)
	out := make([]byte, n)
	for i := range n {
		out[i] = byteAt(a, n-1-i)
	}
	return string(out), api.OK
}

// byteAt is the byte of a value that has so many bytes below it; at is 0 to 15.
func byteAt(a api.Bits, at int) byte {
	if at >= 8 {
		return byte(a.Hi >> (8 * (at - 8)))
	}
	return byte(a.Lo >> (8 * at))
}

// From is the value that bytes say.
func From(b string, width int) (api.Bits, api.Errno) {
	if !isWidth(width) {
		return api.Bits{}, api.ErrWidth
	}
	if len(b) != byteCount(width) {
		return api.Bits{}, api.ErrValue
	}
	var a api.Bits
	for i := range len(b) {
		a = api.Bits{Hi: a.Hi<<8 | a.Lo>>56, Lo: a.Lo<<8 | uint64(b[i])}
	}
	if !Fits(a, width) {
		return api.Bits{}, api.ErrFit
	}
	return a, api.OK
}
