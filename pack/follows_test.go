package pack_test

import (
	"math"
	"math/rand"
	"testing"

	"turnout/api"
	"turnout/pack"
)

// P3.5

// like is the reading that reads what a writing wrote, and what it must answer.
func like(c writing) (reading, answer) {
	switch c.kind {
	case "Uint":
		return reading{kind: "Uint", most: c.n}, answer{n: c.n}
	case "Fixed":
		return reading{kind: "Fixed", size: c.size}, answer{n: c.n}
	case "Text":
		return reading{kind: "Text", size: len(c.s)}, answer{s: c.s}
	case "Bits":
		return reading{kind: "Bits", size: c.size}, answer{a: c.a}
	}
	return reading{kind: "Raw", size: len(c.s)}, answer{s: c.s}
}

// back is the writing that writes what a reading answered.
func back(c reading, got answer) writing {
	return writing{kind: c.kind, n: got.n, size: c.size, a: got.a, s: got.s}
}

// checkRead writes, and reads it again by the like calls.
func checkRead(t *testing.T, l []writing) {
	t.Helper()
	b, e := written(l...).Out()
	if e != api.OK {
		t.Fatalf("Out: %d", e)
	}
	r := pack.Open(b)
	for i, c := range l {
		do, want := like(c)
		if got := do.do(r); got != want {
			t.Fatalf("the call %d, %.60v: %.60v", i, do, got)
		}
	}
	if e, at := r.Fault(); r.End() != api.OK || r.At() != len(b) || e != api.OK || at != 0 {
		t.Fatalf("End %d, At %d of %d, Fault %d, %d", r.End(), r.At(), len(b), e, at)
	}
}

func TestReadOfWritten(t *testing.T) {
	var right []writing
	for _, c := range writings() {
		if _, e := c.want(); e == api.OK {
			right = append(right, c)
			checkRead(t, []writing{c})
		}
	}
	checkRead(t, right)
	d := rand.New(rand.NewSource(5))
	for range 2000 {
		var l []writing
		for range d.Intn(20) {
			l = append(l, right[d.Intn(len(right))])
		}
		checkRead(t, l)
	}
}

// checkWritten reads bytes by some calls, up to the first error, and writes what was read.
func checkWritten(t *testing.T, b string, l ...reading) {
	t.Helper()
	r, w := pack.Open(b), pack.New()
	for _, c := range l {
		got := c.do(r)
		if e, _ := r.Fault(); e != api.OK {
			break
		}
		back(c, got).do(w)
	}
	if s, e := w.Out(); s != b[:r.At()] || e != api.OK {
		t.Fatalf("%q by %v: written %q, %d; gone over %q", b, l, s, e, b[:r.At()])
	}
}

func TestWrittenOfRead(t *testing.T) {
	for high := range 256 {
		for low := range 256 {
			b := string([]byte{byte(high), byte(low), 1})
			checkWritten(t, b, reading{kind: "Uint", most: math.MaxUint64})
			checkWritten(t, b, reading{kind: "Text", size: 9})
			checkWritten(t, b, reading{kind: "Bits", size: 13})
			checkWritten(t, b, reading{kind: "Fixed", size: 2})
		}
	}
	d := rand.New(rand.NewSource(6))
	all := readings()
	for range 20000 {
		var l []reading
		for range 1 + d.Intn(8) {
			l = append(l, all[d.Intn(len(all))])
		}
		checkWritten(t, drawn(d, d.Intn(60)), l...)
	}
	for range 20000 {
		l := []reading{{kind: "Uint", most: math.MaxUint64}, {kind: "Text", size: 40}, {kind: "Bits", size: 1 + d.Intn(128)}, {kind: "Fixed", size: 1 + d.Intn(8)}, {kind: "Raw", size: d.Intn(5)}}
		d.Shuffle(len(l), func(i, j int) { l[i], l[j] = l[j], l[i] })
		checkWritten(t, drawn(d, 60), l...)
	}
}
