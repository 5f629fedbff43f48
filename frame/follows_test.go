package frame_test

import (
	"math/rand"
	"testing"

	"turnout/api"
	"turnout/frame"
)

// F5

func TestOpenOfSeal(t *testing.T) {
	r := rand.New(rand.NewSource(11))
	frames := rightFrames()
	for range 5000 {
		frames = append(frames, drawnFrame(r))
	}
	for _, f := range frames {
		mark := r.Intn(256)
		s, e := frame.Seal(f, mark)
		if e != api.OK {
			t.Fatalf("Seal(%s, %d): %d", short(f), mark, e)
		}
		checkOpen(t, s, answer{f: f, mark: mark})
	}
}

// TestSealOfOpen: at bytes that were made without Seal, so that there is just one row of them.
func TestSealOfOpen(t *testing.T) {
	r := rand.New(rand.NewSource(12))
	opened := 0
	for range 20000 {
		w := raw{mark: byte(r.Intn(256)), kind: byte(r.Intn(4)), number: r.Uint64(), index: r.Uint32(), body: drawn(r, r.Intn(492))}
		w.last = w.mark + pick[byte](r, 0, 0, 0, 1)
		w.length = uint16(len(w.body) + pick(r, 0, 0, 0, 1, -1))
		w.turned = pick[uint32](r, 0, 0, 0, 1)
		f, mark, e := frame.Open(w.bytes())
		if e != api.OK {
			continue
		}
		opened++
		s, e := frame.Seal(f, mark)
		if e != api.OK {
			t.Fatalf("Seal(%s, %d): %d", short(f), mark, e)
		}
		checkBytes(t, s, w.bytes())
	}
	if opened < 1000 {
		t.Errorf("%d frames alone were opened", opened)
	}
}

// turned is bytes with the bits of a pattern turned, from the bit at on; bits are counted from the first byte on, in each byte from the lowest one.
func turned(s string, at int, pattern uint32) string {
	b := []byte(s)
	for i := range 32 {
		if pattern>>i&1 == 1 {
			b[(at+i)/8] ^= 1 << ((at + i) % 8)
		}
	}
	return string(b)
}

const (
	firstBit = 1 * 8   // of the place 1
	endBit   = 511 * 8 // behind the place 510
)

func TestOneBit(t *testing.T) {
	for _, f := range []api.Frame{{Kind: 1}, {Kind: 1, Number: 2, Index: 3, Body: "ab"}, {Kind: 255, Number: 1<<64 - 1, Index: 1<<31 - 1, Body: repeated(255, 491)}} {
		s := rawOf(f, 7).bytes()
		for at := firstBit; at < endBit; at++ {
			checkOpen(t, turned(s, at, 1), answer{e: api.ErrSum})
		}
	}
}

// TestNearBits: turned bits within 32 side by side, at every place.
func TestNearBits(t *testing.T) {
	r := rand.New(rand.NewSource(13))
	for at := firstBit; at < endBit; at++ {
		s := rawOf(drawnFrame(r), r.Intn(256)).bytes()
		room := min(endBit-at, 32)
		patterns := []uint32{1 | 1<<(room-1), 1<<room - 1, 1 | 1<<(room/2)}
		for range 4 {
			patterns = append(patterns, (r.Uint32()|1)&(1<<room-1))
		}
		for _, p := range patterns {
			checkOpen(t, turned(s, at, p), answer{e: api.ErrSum})
		}
	}
}

func TestAnotherMark(t *testing.T) {
	r := rand.New(rand.NewSource(14))
	for mark := range 256 {
		s := rawOf(drawnFrame(r), mark).bytes()
		for other := range 256 {
			if other != mark {
				checkOpen(t, repeated(byte(other), 1)+s[1:], answer{e: api.ErrTorn})
				checkOpen(t, s[:511]+repeated(byte(other), 1), answer{e: api.ErrTorn})
			}
		}
	}
}

func TestOneByte(t *testing.T) {
	for b := range 256 {
		s := repeated(byte(b), size)
		checkOpen(t, s, answer{e: api.ErrSum})
		d := loaded(t, s)
		checkNoGet(t, d, 0, api.ErrSum)
	}
}
