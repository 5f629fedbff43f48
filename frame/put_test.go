package frame_test

import (
	"math"
	"math/rand"
	"slices"
	"testing"

	"turnout/api"
	"turnout/disk"
	"turnout/frame"
)

// noSectors are numbers that no sector of a disk of so many has.
func noSectors(sectors int) []int {
	return []int{math.MinInt, math.MinInt32, -size, -2, -1, sectors, sectors + 1, 4096, 1 << 32, math.MaxInt}
}

// F3

// TestPut: one Read, one Write, no Flush; nothing else of the disk changes.
func TestPut(t *testing.T) {
	r := rand.New(rand.NewSource(3))
	for _, f := range rightFrames() {
		sectors := []string{drawn(r, size), drawn(r, size), drawn(r, size)}
		for at := range sectors {
			d := loaded(t, sectors...)
			want := lookAt(d)
			checkPut(t, d, at, f, api.OK)
			want.pending, want.stats = []int{at}, api.Stats{Reads: 1, Writes: 1}
			checkLook(t, d, want)
			for n, s := range sectors {
				if n == at {
					s = rawOf(f, int(s[511]+1)).bytes()
				}
				checkSector(t, d, n, s)
			}
		}
	}
}

// TestPutMark: it goes on from the last byte, whatever the first one is.
func TestPutMark(t *testing.T) {
	f := api.Frame{Kind: 3, Number: 4, Index: 5, Body: "body"}
	for last := range 256 {
		mark := last + 1
		if last == 255 {
			mark = 0
		}
		for _, first := range []int{0, 1, 254, 255, last, mark, 255 - last} {
			d := loaded(t, repeated(byte(first), 511)+repeated(byte(last), 1))
			checkPut(t, d, 0, f, api.OK)
			checkSector(t, d, 0, rawOf(f, mark).bytes())
		}
	}
}

// TestPutMarks: each Put goes on from what the sector reads as, flushed or not.
func TestPutMarks(t *testing.T) {
	f, g := api.Frame{Kind: 1, Body: "f"}, api.Frame{Kind: 2, Body: "g"}
	d := loaded(t, repeated(0, size), repeated(0, size))
	for i := 1; i <= 600; i++ {
		checkPut(t, d, 1, f, api.OK)
		checkSector(t, d, 1, rawOf(f, i%256).bytes())
		if i%7 == 0 {
			checkPut(t, d, 0, g, api.OK)
			checkSector(t, d, 0, rawOf(g, i/7%256).bytes())
		}
		if i%5 == 0 {
			d.Flush()
		}
	}
	// What a crash took away counts for nothing.
	d.Flush()
	for range 4 {
		checkPut(t, d, 1, g, api.OK)
		checkSector(t, d, 1, rawOf(g, 601%256).bytes())
		checkPut(t, d, 1, f, api.OK)
		checkSector(t, d, 1, rawOf(f, 602%256).bytes())
		d.Crash()
		checkGet(t, d, 1, f)
		checkGet(t, d, 0, g)
	}
}

// gone is a disk whose power is gone.
func gone(t *testing.T, sectors ...string) *disk.Disk {
	t.Helper()
	d := loaded(t, sectors...)
	d.Cut(1)
	if e := d.Flush(); e != api.ErrPower {
		t.Fatalf("Flush: %d", e)
	}
	return d
}

// TestPutRefused: ErrArg and ErrLong come ahead of all that the disk says, and it is not asked.
func TestPutRefused(t *testing.T) {
	image := []string{repeated('a', size), repeated('b', size)}
	whole, off := loaded(t, image...), gone(t, image...)
	whole.Cut(1)
	for _, d := range []*disk.Disk{whole, off} {
		want := lookAt(d)
		for _, at := range append(noSectors(2), 0, 1) {
			for _, f := range wrongFrames() {
				checkPut(t, d, at, f, api.ErrArg)
			}
			for _, f := range longFrames() {
				checkPut(t, d, at, f, api.ErrLong)
			}
		}
		checkLook(t, d, want)
	}
	// The cut is still planned: a frame that is refused is no step.
	checkPut(t, whole, 0, api.Frame{Kind: 1}, api.ErrPower)
	if !whole.Off() {
		t.Error("the power is on")
	}
}

func TestNoSector(t *testing.T) {
	f := api.Frame{Kind: 1, Body: "x"}
	for _, sectors := range []int{1, 2, 5} {
		d := loaded(t, slices.Repeat([]string{repeated('a', size)}, sectors)...)
		want := lookAt(d)
		d.Cut(1)
		for _, at := range noSectors(sectors) {
			checkPut(t, d, at, f, api.ErrSector)
			checkNoGet(t, d, at, api.ErrSector)
		}
		checkLook(t, d, want)
		d.Cut(0)
		checkPut(t, d, sectors-1, f, api.OK)
		checkGet(t, d, sectors-1, f)
	}
}

// TestPowerGone: ahead of the Read, whatever the sector's number is.
func TestPowerGone(t *testing.T) {
	f := api.Frame{Kind: 1, Body: "x"}
	d := gone(t, rawOf(f, 3).bytes(), repeated('b', size))
	want := lookAt(d)
	for _, at := range append(noSectors(2), 0, 1) {
		checkPut(t, d, at, f, api.ErrPower)
		checkNoGet(t, d, at, api.ErrPower)
	}
	checkLook(t, d, want)
}

// TestPowerGoes: at the Write, behind the Read.
func TestPowerGoes(t *testing.T) {
	f, g := api.Frame{Kind: 1, Body: "f"}, api.Frame{Kind: 2, Body: "g"}
	sector := rawOf(f, 3).bytes()
	for steps := 1; steps <= 4; steps++ {
		d := loaded(t, sector)
		d.Cut(steps)
		for range steps - 1 {
			checkPut(t, d, 0, g, api.OK)
			checkGet(t, d, 0, g)
		}
		checkPut(t, d, 0, f, api.ErrPower)
		checkNoGet(t, d, 0, api.ErrPower)
		checkLook(t, d, look{off: true, pending: make([]int, steps-1), image: sector, stats: api.Stats{Reads: 2*steps - 1, Writes: steps - 1}})
		d.Crash(slices.Repeat([]api.Fate{{Kind: api.Kept}}, steps)...)
		if steps == 1 {
			checkGet(t, d, 0, f)
		} else {
			checkGet(t, d, 0, g)
			checkSector(t, d, 0, rawOf(g, 3+steps-1).bytes())
		}
	}
}

// TestGet: one Read, and what Open says of it.
func TestGet(t *testing.T) {
	f := api.Frame{Kind: 255, Number: math.MaxUint64, Index: 2147483647, Body: repeated('x', 491)}
	torn, other := rawOf(f, 3), rawOf(f, 3)
	torn.last, other.turned = 4, 1
	sectors := []string{rawOf(f, 3).bytes(), torn.bytes(), other.bytes(), formless()[0].bytes(), repeated(0, size)}
	d := loaded(t, sectors...)
	want := lookAt(d)
	checkGet(t, d, 0, f)
	for at, e := range []api.Errno{1: api.ErrTorn, 2: api.ErrSum, 3: api.ErrFrame, 4: api.ErrSum} {
		if at > 0 {
			checkNoGet(t, d, at, e)
		}
	}
	want.stats.Reads = 5
	checkLook(t, d, want)
	r := rand.New(rand.NewSource(4))
	for range 3000 {
		w := rawOf(drawnFrame(r), r.Intn(256))
		w.last += pick[byte](r, 0, 0, 0, 1)
		w.turned = pick[uint32](r, 0, 0, 0, 1<<31)
		d := loaded(t, w.bytes())
		told := read(w.bytes())
		if f, e := frame.Get(d, 0); f != told.f || e != told.e {
			t.Fatalf("Get: %s, %d; want %s", short(f), e, told)
		}
	}
}

// TestGetPending: what was put and not flushed is told.
func TestGetPending(t *testing.T) {
	d := loaded(t, repeated(0, size), repeated(255, size))
	for i, f := range rightFrames() {
		checkPut(t, d, i%2, f, api.OK)
		checkGet(t, d, i%2, f)
		if i%3 == 0 {
			d.Flush()
			checkGet(t, d, i%2, f)
		}
	}
	f := api.Frame{Kind: 7, Body: "put"}
	checkPut(t, d, 0, f, api.OK)
	d.Write(0, repeated(9, size))
	checkNoGet(t, d, 0, api.ErrSum)
	checkPut(t, d, 0, f, api.OK)
	checkSector(t, d, 0, rawOf(f, 10).bytes())
}
