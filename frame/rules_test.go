package frame_test

import (
	"math"
	"strings"
	"sync"
	"testing"
	"unsafe"

	"turnout/api"
	"turnout/frame"
)

// R1

// TestNilDisk: ErrArg, whatever the frame and the sector's number are.
func TestNilDisk(t *testing.T) {
	frames := append(append(rightFrames(), wrongFrames()...), longFrames()...)
	for _, at := range []int{math.MinInt, -1, 0, 1, 4096, math.MaxInt} {
		checkNoGet(t, nil, at, api.ErrArg)
		for _, f := range frames {
			checkPut(t, nil, at, f, api.ErrArg)
		}
	}
}

// R3

// mutable is a text over bytes that can be changed behind its back.
func mutable(s string) (string, []byte) {
	b := []byte(s)
	return unsafe.String(&b[0], len(b)), b
}

// TestHandedInIsNotKept: neither a Body nor bytes.
func TestHandedInIsNotKept(t *testing.T) {
	for _, length := range []int{1, 100, 491} {
		want := api.Frame{Kind: 1, Body: strings.Repeat("x", length)}
		body, under := mutable(want.Body)
		given := api.Frame{Kind: 1, Body: body}
		d := loaded(t, repeated(0, size))
		checkPut(t, d, 0, given, api.OK)
		s := checkSeal(t, given, 1)
		clear(under)
		checkBytes(t, s, rawOf(want, 1).bytes())
		checkGet(t, d, 0, want)

		s, under = mutable(s)
		f, _, _ := frame.Open(s)
		clear(under)
		if f != want {
			t.Errorf("a Body of %d bytes shares the memory of what was opened", length)
		}
	}
}

// TestAnswersAreTheirOwners: no two of them share memory.
func TestAnswersAreTheirOwners(t *testing.T) {
	f := api.Frame{Kind: 1, Body: strings.Repeat("x", 491)}
	d := loaded(t, repeated(0, size))
	checkPut(t, d, 0, f, api.OK)
	texts := []string{f.Body}
	for range 2 {
		s := checkSeal(t, f, 1)
		opened, _, _ := frame.Open(s)
		got, _ := frame.Get(d, 0)
		texts = append(texts, s[16:], opened.Body, got.Body)
	}
	for i, a := range texts {
		for _, b := range texts[:i] {
			if unsafe.StringData(a) == unsafe.StringData(b) {
				t.Errorf("the answer %d shares its memory", i)
			}
		}
	}
}

// R4

// TestSideBySide: Seal and Open have no object, and answer the same whoever else calls them.
func TestSideBySide(t *testing.T) {
	frames := rightFrames()
	got := make([]answer, len(frames))
	var all sync.WaitGroup
	for i, f := range frames {
		all.Go(func() {
			for range 20 {
				s, _ := frame.Seal(f, i)
				got[i].f, got[i].mark, got[i].e = frame.Open(s)
			}
		})
	}
	all.Wait()
	for i, f := range frames {
		if want := (answer{f: f, mark: i}); got[i] != want {
			t.Errorf("%s; want %s", got[i], want)
		}
	}
}

// TestTwoDisks: a Put into one is not seen in the other.
func TestTwoDisks(t *testing.T) {
	f, g := api.Frame{Kind: 1, Body: "f"}, api.Frame{Kind: 2, Body: "g"}
	a, b := loaded(t, repeated(0, size)), loaded(t, repeated(0, size))
	checkPut(t, a, 0, f, api.OK)
	checkNoGet(t, b, 0, api.ErrSum)
	checkPut(t, b, 0, g, api.OK)
	checkPut(t, b, 0, g, api.OK)
	checkSector(t, a, 0, rawOf(f, 1).bytes())
	checkSector(t, b, 0, rawOf(g, 2).bytes())
	checkGet(t, a, 0, f)
	checkGet(t, b, 0, g)
}
