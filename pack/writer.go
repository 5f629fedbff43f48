package pack

import (
	"turnout/api"
	"turnout/value"
)

// Writer is bytes on their way.
type Writer struct {
	bytes []byte
	fault api.Errno // the first error
}

// New is a writer of nothing yet.
func New() *Writer { return &Writer{} }

// put puts bytes behind those that there are, or keeps the error that stands in their place.
func (w *Writer) put(b string, e api.Errno) {
	if w == nil || w.fault != api.OK {
		return
	}
	if e != api.OK {
		w.fault = e
		return
	}
	w.bytes = append(w.bytes, b...)
}

// Uint writes a number, seven bits a byte.
func (w *Writer) Uint(n uint64) { w.put(bytesOf(n), api.OK) }

// Fixed writes a number in so many bytes, the highest first.
func (w *Writer) Fixed(n uint64, bytes int) { w.put(fixedBytes(n, bytes)) }

// Text writes a text, its length ahead.
func (w *Writer) Text(s string) {
	w.Uint(uint64(len(s)))
	w.Raw(s)
}

// Bits writes a value of a width in whole bytes.
func (w *Writer) Bits(a api.Bits, width int) { w.put(value.Bytes(a, width)) }

// Raw writes bytes as they are.
func (w *Writer) Raw(s string) { w.put(s, api.OK) }

// Len is how many bytes there are.
func (w *Writer) Len() int {
	if w == nil {
		return 0
	}
	return len(w.bytes)
}

// Out are the bytes, or the first error.
func (w *Writer) Out() (string, api.Errno) {
	if w == nil {
		return "", api.ErrArg
	}
	if w.fault != api.OK {
		return "", w.fault
	}
	return string(w.bytes), api.OK
}

// bytesOf are the bytes of a number.
func bytesOf(n uint64) string {
	var out []byte
	for ; n >= more; n >>= perByte {
		out = append(out, byte(n)|more)
	}
	return string(append(out, byte(n)))
}

// fixedBytes are the bytes of a fixed number.
func fixedBytes(n uint64, bytes int) (string, api.Errno) {
	if !isFixed(bytes) {
		return "", api.ErrArg
	}
	if n>>(8*bytes) != 0 {
		return "", api.ErrFit
	}
	out := make([]byte, bytes)
	for i := range out {
		out[i] = byte(n >> (8 * (bytes - 1 - i)))
	}
	return string(out), api.OK
}
