package trie

import (
	"turnout/api"
	"turnout/value"
)

// Prefix is a value's highest bits.
type Prefix struct {
	Value api.Bits
	Len   int
}

// first is the prefix of a value's n highest bits; n is 0 to the width.
func first(a api.Bits, width, n int) Prefix {
	mask, _ := value.Mask(width, n)
	return Prefix{value.And(a, mask), n}
}

// isPrefix tells whether p is a prefix in a width.
func isPrefix(p Prefix, width int) bool {
	// Of a value that does not fit, first leaves out what is above the width, too.
	return 0 <= p.Len && p.Len <= width && first(p.Value, width, p.Len) == p
}

// common is how many bits two prefixes of a width have in common.
func common(p, q Prefix, width int) int {
	return min(value.Common(p.Value, q.Value, width), p.Len, q.Len)
}

// begins tells whether p begins q.
func begins(p, q Prefix, width int) bool { return common(p, q, width) == p.Len }

// side is where a value lies behind its n highest bits: 0 or 1.
func side(a api.Bits, width, n int) int {
	if value.Bit(a, width, n) {
		return 1
	}
	return 0
}
