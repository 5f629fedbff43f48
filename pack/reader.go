package pack

import (
	"strings"

	"turnout/api"
	"turnout/value"
)

// Reader reads bytes.
type Reader struct {
	place place
	fault api.Errno // the first error; behind it the place stays, so that it tells where that call began
}

// Open is a reader at the beginning of bytes.
func Open(b string) *Reader { return &Reader{place: place{bytes: b}} }

// read does one reading, and catches what it gives up with. The reading goes over a copy of the place: so the reader stays where it stood, if it does not come to its end.
func read[T any](r *Reader, reading func(*place) T) (answer T) {
	if r == nil || r.fault != api.OK {
		return answer
	}
	defer func() {
		if gone := recover(); gone != nil {
			r.fault = gone.(api.Errno)
		}
	}()
	p := r.place
	answer = reading(&p)
	r.place = p
	return answer
}

// Uint reads a number, at most so great.
func (r *Reader) Uint(most uint64) uint64 {
	return read(r, func(p *place) uint64 { return p.number(most) })
}

// Fixed reads a number in so many bytes.
func (r *Reader) Fixed(bytes int) uint64 {
	return read(r, func(p *place) uint64 { return p.fixed(bytes) })
}

// Text reads a text, at most so long.
func (r *Reader) Text(most int) string {
	return read(r, func(p *place) string { return p.text(most) })
}

// Bits reads a value of a width.
func (r *Reader) Bits(width int) api.Bits {
	return read(r, func(p *place) api.Bits { return p.bits(width) })
}

// Raw reads so many bytes as they are.
func (r *Reader) Raw(bytes int) string {
	return read(r, func(p *place) string { return p.raw(bytes) })
}

// At is the place of the next byte.
func (r *Reader) At() int {
	if r == nil {
		return 0
	}
	return r.place.at
}

// Fault is the first error, and its place.
func (r *Reader) Fault() (api.Errno, int) {
	if r == nil {
		return api.ErrArg, 0
	}
	if r.fault == api.OK {
		return api.OK, 0
	}
	return r.fault, r.place.at
}

// End is the first error, or ErrRest, if something is left.
func (r *Reader) End() api.Errno {
	if r == nil {
		return api.ErrArg
	}
	if r.fault == api.OK && r.place.left() > 0 {
		return api.ErrRest
	}
	return r.fault
}

// A place is where a reading stands in bytes. What can't be read there gives up: it panics with its error, which read catches, and with nothing else.
type place struct {
	bytes string
	at    int
}

// need gives up with an error, if something does not hold.
func need(holds bool, e api.Errno) {
	if !holds {
		panic(e)
	}
}

// left is how many bytes there are from here on.
func (p *place) left() int { return len(p.bytes) - p.at }

// next goes over n bytes, n from 0 on, and tells them.
func (p *place) next(n int) string {
	need(n <= p.left(), api.ErrEnd)
	b := p.bytes[p.at : p.at+n]
	p.at += n
	return b
}

// number reads a number that is not above most.
func (p *place) number(most uint64) uint64 {
	var n uint64
	for i := 0; ; i++ {
		b := p.next(1)[0]
		// A tenth byte that is not the number's last one is above 1, too.
		need(i < lastIndex || b <= 1, api.ErrForm)
		need(i == 0 || b != 0, api.ErrForm)
		n |= uint64(b&^more) << (perByte * i)
		if b < more {
			break
		}
	}
	need(n <= most, api.ErrLong)
	return n
}

// fixed reads a fixed number of so many bytes.
func (p *place) fixed(bytes int) uint64 {
	need(isFixed(bytes), api.ErrArg)
	b := p.next(bytes)
	var n uint64
	for i := range len(b) {
		n = n<<8 | uint64(b[i])
	}
	return n
}

// text reads a text that is not longer than most.
func (p *place) text(most int) string {
	need(most >= 0, api.ErrArg)
	return p.raw(int(p.number(uint64(most))))
}

// bits reads a value of a width.
func (p *place) bits(width int) api.Bits {
	_, e := value.Most(width)
	need(e == api.OK, e)
	a, e := value.From(p.next((width+7)/8), width)
	need(e == api.OK, e)
	return a
}

// raw reads so many bytes, into memory of their own.
func (p *place) raw(bytes int) string {
	need(bytes >= 0, api.ErrArg)
	return strings.Clone(p.next(bytes))
}
