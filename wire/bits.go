package wire

import (
	"turnout/api"
	"turnout/value"
)

// highest is a byte's highest bit.
const highest = 0x80

// eachField hands over a header's fields: the number of each, the place of its first bit among the header's bits, and its width. It tells how many bits they have together.
func eachField(h api.Header, move func(field, place, width int)) int {
	place := 0
	for i, f := range h.Fields {
		move(i, place, f.Width)
		place += f.Width
	}
	return place
}

// size is how many bytes a header of a sound schema has.
func size(h api.Header) int {
	return eachField(h, func(_, _, _ int) {}) / 8
}

// bytesOf are the bytes of a header with these values, which fit.
func bytesOf(h api.Header, values []api.Bits) string {
	out := make([]byte, size(h))
	eachField(h, func(field, place, width int) {
		for i := range width {
			if value.Bit(values[field], width, i) {
				out[(place+i)/8] |= highest >> ((place + i) % 8)
			}
		}
	})
	return string(out)
}

// valuesOf are the values that a header's bytes, as many as it has, say.
func valuesOf(h api.Header, b string) []api.Bits {
	values := make([]api.Bits, len(h.Fields))
	eachField(h, func(field, place, width int) {
		var a api.Bits
		for i := range width {
			a = value.Add(a, a, width)
			if b[(place+i)/8]&(highest>>((place+i)%8)) != 0 {
				a.Lo |= 1
			}
		}
		values[field] = a
	})
	return values
}
