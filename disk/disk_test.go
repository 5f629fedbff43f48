package disk_test

import (
	"math"
	"slices"
	"strings"
	"testing"

	"turnout/api"
	"turnout/disk"
)

const size = api.SectorSize

// sector is one of a byte 512 times.
func sector(b byte) string { return strings.Repeat(string([]byte{b}), size) }

var (
	noughts = sector(0)
	sectorA = sector('a')
	sectorB = sector('b')
	sectorC = sector('c')
)

// mixed is bytes of which no two sectors, and no two places side by side, are the same.
func mixed(sectors int) string {
	b := make([]byte, sectors*size)
	for i := range b {
		b[i] = byte(i*7 + i/size*13 + i/256)
	}
	return string(b)
}

func fresh(t *testing.T, sectors int) *disk.Disk {
	t.Helper()
	d, e := disk.New(sectors)
	if d == nil || e != api.OK {
		t.Fatalf("New(%d): %v, %d", sectors, d, e)
	}
	return d
}

func loaded(t *testing.T, image string) *disk.Disk {
	t.Helper()
	d, e := disk.Load(image)
	if d == nil || e != api.OK {
		t.Fatalf("Load of %d bytes: %v, %d", len(image), d, e)
	}
	return d
}

// look is all that can be asked of a disk without a change of it.
type look struct {
	size    int
	off     bool
	pending []int
	image   string
	stats   api.Stats
}

func lookAt(d *disk.Disk) look { return look{d.Size(), d.Off(), d.Pending(), d.Image(), d.Stats()} }

func checkLook(t *testing.T, d *disk.Disk, want look) {
	t.Helper()
	got := lookAt(d)
	if got.size != want.size || got.off != want.off || got.stats != want.stats {
		t.Fatalf("size %d, off %v, %+v; want %d, %v, %+v", got.size, got.off, got.stats, want.size, want.off, want.stats)
	}
	if !slices.Equal(got.pending, want.pending) {
		t.Fatalf("pending %v; want %v", got.pending, want.pending)
	}
	checkBytes(t, "the image", got.image, want.image)
}

// checkBytes holds bytes against each other, and tells the first place alone at which they differ.
func checkBytes(t *testing.T, what, got, want string) {
	t.Helper()
	if len(got) != len(want) {
		t.Fatalf("%s has %d bytes; want %d", what, len(got), len(want))
	}
	for i := range len(got) {
		if got[i] != want[i] {
			t.Fatalf("%s has %#x at %d; want %#x", what, got[i], i, want[i])
		}
	}
}

func checkRead(t *testing.T, d *disk.Disk, n int, want string) {
	t.Helper()
	s, e := d.Read(n)
	if e != api.OK {
		t.Fatalf("Read(%d): %d", n, e)
	}
	checkBytes(t, "a sector", s, want)
}

// checkNoRead holds a Read that must answer an error against it.
func checkNoRead(t *testing.T, d *disk.Disk, n int, want api.Errno) {
	t.Helper()
	if s, e := d.Read(n); s != "" || e != want {
		t.Fatalf("Read(%d): %d bytes, %d; want none, %d", n, len(s), e, want)
	}
}

func checkWrite(t *testing.T, d *disk.Disk, n int, s string, want api.Errno) {
	t.Helper()
	if e := d.Write(n, s); e != want {
		t.Fatalf("Write(%d, %d bytes): %d; want %d", n, len(s), e, want)
	}
}

func checkFlush(t *testing.T, d *disk.Disk, want api.Errno) {
	t.Helper()
	if e := d.Flush(); e != want {
		t.Fatalf("Flush: %d; want %d", e, want)
	}
}

// noSectors are numbers that no sector of a disk of so many has.
func noSectors(sectors int) []int {
	return []int{math.MinInt, math.MinInt + 1, math.MinInt32, -size, -2, -1, sectors, sectors + 1, 2 * sectors, 4096, 4097, math.MaxInt32, 1 << 32, math.MaxInt - 1, math.MaxInt}
}

// wrongTexts have not 512 bytes.
func wrongTexts() []string {
	var list []string
	for _, length := range []int{0, 1, size / 2, size - 1, size + 1, 2 * size, 100 * size} {
		list = append(list, strings.Repeat("x", length))
	}
	return list
}

// D1

func TestNew(t *testing.T) {
	for _, sectors := range []int{1, 2, 3, 100, 4095, 4096} {
		d := fresh(t, sectors)
		checkLook(t, d, look{size: sectors, image: strings.Repeat("\x00", sectors*size)})
		checkRead(t, d, 0, noughts)
		checkRead(t, d, sectors-1, noughts)
		checkNoRead(t, d, sectors, api.ErrSector)
	}
}

func TestNewRefused(t *testing.T) {
	for _, sectors := range []int{math.MinInt, -4096, -1, 0, 4097, 8192, 1 << 32, 1<<32 + 1, math.MaxInt/size + 2, math.MaxInt} {
		if d, e := disk.New(sectors); d != nil || e != api.ErrArg {
			t.Errorf("New(%d): %v, %d", sectors, d, e)
		}
	}
}

func TestLoad(t *testing.T) {
	for _, sectors := range []int{1, 2, 3, 100, 4095, 4096} {
		image := mixed(sectors)
		d := loaded(t, image)
		checkLook(t, d, look{size: sectors, image: image})
		for n := range sectors {
			checkRead(t, d, n, image[n*size:(n+1)*size])
		}
		checkNoRead(t, d, sectors, api.ErrSector)
		checkLook(t, d, look{size: sectors, image: image, stats: api.Stats{Reads: sectors}})
	}
}

func TestLoadRefused(t *testing.T) {
	for _, length := range []int{0, 1, 256, 511, 513, 1023, 1025, 4096*size - 1, 4096*size + 1, 4097 * size, 4097*size - 1, 8192 * size} {
		if d, e := disk.Load(strings.Repeat("x", length)); d != nil || e != api.ErrArg {
			t.Errorf("Load of %d bytes: %v, %d", length, d, e)
		}
	}
}

// TestNothingIsPlanned: a disk that was made has its power, and no step of it is cut.
func TestNothingIsPlanned(t *testing.T) {
	for _, d := range []*disk.Disk{fresh(t, 2), loaded(t, mixed(2))} {
		for range 50 {
			checkWrite(t, d, 1, sectorA, api.OK)
			checkFlush(t, d, api.OK)
		}
		if d.Off() {
			t.Error("the power is gone")
		}
	}
}

// D2

func TestRead(t *testing.T) {
	image := mixed(3)
	d := loaded(t, image)
	checkWrite(t, d, 1, sectorA, api.OK)
	checkRead(t, d, 0, image[:size])
	checkRead(t, d, 1, sectorA)
	checkRead(t, d, 2, image[2*size:])
	checkWrite(t, d, 1, sectorB, api.OK)
	checkWrite(t, d, 2, sectorC, api.OK)
	checkRead(t, d, 1, sectorB)
	checkRead(t, d, 2, sectorC)
	checkFlush(t, d, api.OK)
	checkRead(t, d, 0, image[:size])
	checkRead(t, d, 1, sectorB)
	checkWrite(t, d, 1, sectorA, api.OK)
	checkRead(t, d, 1, sectorA)
	d.Crash()
	checkRead(t, d, 1, sectorB)
	checkRead(t, d, 2, sectorC)
}

func TestReadRefused(t *testing.T) {
	for _, sectors := range []int{1, 2, 100} {
		d := fresh(t, sectors)
		for _, n := range noSectors(sectors) {
			checkNoRead(t, d, n, api.ErrSector)
		}
		checkLook(t, d, look{size: sectors, image: strings.Repeat(noughts, sectors)})
		d.Cut(1)
		checkFlush(t, d, api.ErrPower)
		for _, n := range append(noSectors(sectors), 0, sectors-1) {
			checkNoRead(t, d, n, api.ErrPower)
		}
		checkLook(t, d, look{size: sectors, off: true, image: strings.Repeat(noughts, sectors)})
	}
}

// D3

func TestWriteIsPending(t *testing.T) {
	d := fresh(t, 3)
	checkWrite(t, d, 2, sectorA, api.OK)
	checkWrite(t, d, 0, sectorB, api.OK)
	checkWrite(t, d, 2, sectorC, api.OK)
	checkLook(t, d, look{size: 3, pending: []int{2, 0, 2}, image: noughts + noughts + noughts, stats: api.Stats{Writes: 3}})
	checkFlush(t, d, api.OK)
	checkLook(t, d, look{size: 3, image: sectorB + noughts + sectorC, stats: api.Stats{Writes: 3, Flushes: 1}})
	checkFlush(t, d, api.OK)
	checkLook(t, d, look{size: 3, image: sectorB + noughts + sectorC, stats: api.Stats{Writes: 3, Flushes: 2}})
	checkWrite(t, d, 2, sectorA, api.OK)
	checkLook(t, d, look{size: 3, pending: []int{2}, image: sectorB + noughts + sectorC, stats: api.Stats{Writes: 4, Flushes: 2}})
}

// TestLastWriteCounts: of one sector, ahead of a Flush.
func TestLastWriteCounts(t *testing.T) {
	for _, last := range []string{sectorA, sectorB, noughts} {
		d := fresh(t, 2)
		for _, s := range []string{sectorB, sectorA, sectorC, last} {
			checkWrite(t, d, 1, s, api.OK)
			checkRead(t, d, 1, s)
		}
		checkFlush(t, d, api.OK)
		checkRead(t, d, 1, last)
		checkBytes(t, "the image", d.Image(), noughts+last)
	}
}

func TestWriteRefused(t *testing.T) {
	for _, sectors := range []int{1, 2, 100} {
		d := fresh(t, sectors)
		texts := append(wrongTexts(), sectorA)
		for _, n := range noSectors(sectors) {
			for _, s := range texts {
				checkWrite(t, d, n, s, api.ErrSector)
			}
		}
		for _, n := range []int{0, sectors / 2, sectors - 1} {
			for _, s := range wrongTexts() {
				checkWrite(t, d, n, s, api.ErrSize)
			}
		}
		checkLook(t, d, look{size: sectors, image: strings.Repeat(noughts, sectors)})
		d.Cut(1)
		checkFlush(t, d, api.ErrPower)
		for _, n := range append(noSectors(sectors), 0, sectors-1) {
			for _, s := range texts {
				checkWrite(t, d, n, s, api.ErrPower)
			}
		}
		checkFlush(t, d, api.ErrPower)
		checkLook(t, d, look{size: sectors, off: true, image: strings.Repeat(noughts, sectors)})
	}
}

// TestAllSectors: each one of the greatest disk is written, flushed and written once more.
func TestAllSectors(t *testing.T) {
	d := fresh(t, 4096)
	image := mixed(4096)
	for n := range 4096 {
		checkWrite(t, d, n, image[n*size:(n+1)*size], api.OK)
	}
	checkFlush(t, d, api.OK)
	checkLook(t, d, look{size: 4096, image: image, stats: api.Stats{Writes: 4096, Flushes: 1}})
	for n := range 4096 {
		checkRead(t, d, n, image[n*size:(n+1)*size])
		checkWrite(t, d, 4095-n, sectorA, api.OK)
		checkRead(t, d, 4095-n, sectorA)
		checkWrite(t, d, 4095-n, image[(4095-n)*size:(4096-n)*size], api.OK)
	}
	checkBytes(t, "the image", d.Image(), image)
}

// TestExamples: those of the chapter, in their order.
func TestExamples(t *testing.T) {
	d := fresh(t, 2)
	checkNoRead(t, d, 2, api.ErrSector)
	checkRead(t, d, 0, noughts)
	checkWrite(t, d, 0, "x", api.ErrSize)
	checkWrite(t, d, 2, "x", api.ErrSector)

	d = fresh(t, 2)
	checkWrite(t, d, 0, sectorA, api.OK)
	checkRead(t, d, 0, sectorA)
	checkLook(t, d, look{size: 2, pending: []int{0}, image: noughts + noughts, stats: api.Stats{Reads: 1, Writes: 1}})
	checkFlush(t, d, api.OK)
	checkLook(t, d, look{size: 2, image: sectorA + noughts, stats: api.Stats{Reads: 1, Writes: 1, Flushes: 1}})

	d = fresh(t, 1)
	checkWrite(t, d, 0, sectorA, api.OK)
	checkWrite(t, d, 0, sectorB, api.OK)
	d.Crash(api.Fate{Kind: api.Torn, At: 3})
	checkRead(t, d, 0, "aaa"+noughts[3:])
	checkWrite(t, d, 0, sectorA, api.OK)
	checkWrite(t, d, 0, sectorB, api.OK)
	d.Crash(api.Fate{Kind: api.Kept}, api.Fate{Kind: api.Torn, At: 3})
	checkRead(t, d, 0, "bbb"+sectorA[3:])

	d = fresh(t, 2)
	d.Cut(2)
	checkWrite(t, d, 0, sectorA, api.OK)
	checkWrite(t, d, 1, sectorB, api.ErrPower)
	checkLook(t, d, look{size: 2, off: true, pending: []int{0}, image: noughts + noughts, stats: api.Stats{Writes: 1}})
	checkNoRead(t, d, 0, api.ErrPower)
	checkFlush(t, d, api.ErrPower)
	d.Crash(api.Fate{Kind: api.Kept})
	checkLook(t, d, look{size: 2, image: sectorA + noughts, stats: api.Stats{Writes: 1}})

	d = fresh(t, 2)
	d.Cut(1)
	checkFlush(t, d, api.ErrPower)
	d.Crash()
	d.Cut(1)
	checkWrite(t, d, 9, sectorA, api.ErrSector)
	checkWrite(t, d, 0, sectorA, api.ErrPower)
}
