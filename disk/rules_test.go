package disk_test

import (
	"math"
	"math/rand"
	"slices"
	"strings"
	"sync"
	"testing"
	"unsafe"

	"turnout/api"
	"turnout/disk"
)

// R1

func TestNilDisk(t *testing.T) {
	var d *disk.Disk
	for range 2 {
		for _, n := range []int{math.MinInt, -1, 0, 1, math.MaxInt} {
			checkNoRead(t, d, n, api.ErrArg)
			for _, s := range append(wrongTexts(), sectorA) {
				checkWrite(t, d, n, s, api.ErrArg)
			}
			d.Cut(n)
			d.Crash(api.Fate{Kind: n, At: n}, api.Fate{Kind: api.Kept})
		}
		checkFlush(t, d, api.ErrArg)
		d.Cut(1)
		checkFlush(t, d, api.ErrArg)
		d.Crash()
		checkLook(t, d, look{})
	}
}

// R3

// mutable is a text over bytes that can be changed behind its back.
func mutable(s string) (string, []byte) {
	b := []byte(s)
	return unsafe.String(&b[0], len(b)), b
}

// TestHandedInIsNotKept: neither texts nor fates.
func TestHandedInIsNotKept(t *testing.T) {
	image, under := mutable(sectorA + sectorB)
	d := loaded(t, image)
	clear(under)
	checkBytes(t, "the image", d.Image(), sectorA+sectorB)
	checkRead(t, d, 1, sectorB)

	s, under := mutable(sectorC)
	checkWrite(t, d, 0, s, api.OK)
	clear(under)
	checkRead(t, d, 0, sectorC)
	checkFlush(t, d, api.OK)
	checkBytes(t, "the image", d.Image(), sectorC+sectorB)

	fates := []api.Fate{{Kind: api.Torn, At: 900}, {Kind: 7, At: -3}, {Kind: api.Kept, At: 5}, {Kind: api.Torn, At: -1}}
	before := slices.Clone(fates)
	checkWrite(t, d, 0, sectorA, api.OK)
	checkWrite(t, d, 0, sectorB, api.OK)
	d.Crash(fates[:2]...)
	if !slices.Equal(fates, before) {
		t.Errorf("the fates became %v", fates)
	}
	checkBytes(t, "the image", d.Image(), sectorA+sectorB)
}

// TestAnswersAreTheirOwners: no answer shares memory with the disk, with what was written, or with another answer.
func TestAnswersAreTheirOwners(t *testing.T) {
	d := fresh(t, 1)
	s, _ := mutable(sectorA)
	checkWrite(t, d, 0, s, api.OK)
	first, _ := d.Read(0)
	checkFlush(t, d, api.OK)
	second, _ := d.Read(0)
	d.Crash()
	third, _ := d.Read(0)
	reloaded := loaded(t, third)
	fourth, _ := reloaded.Read(0)
	texts := []string{s, first, second, third, fourth, d.Image(), d.Image(), reloaded.Image()}
	for i, a := range texts {
		checkBytes(t, "an answer", a, sectorA)
		for _, b := range texts[:i] {
			if unsafe.StringData(a) == unsafe.StringData(b) {
				t.Errorf("the answer %d shares its memory", i)
			}
		}
	}
	noughtsOf := func() string { s, _ := fresh(t, 1).Read(0); return s }
	if unsafe.StringData(noughtsOf()) == unsafe.StringData(noughtsOf()) {
		t.Error("two new disks read as one memory")
	}
}

func TestPendingIsItsOwners(t *testing.T) {
	d := fresh(t, 4)
	for _, n := range []int{3, 1, 2} {
		checkWrite(t, d, n, sectorA, api.OK)
	}
	first, second := d.Pending(), d.Pending()
	full := first[:cap(first)]
	for i := range full {
		full[i] = 99
	}
	if want := []int{3, 1, 2}; !slices.Equal(second, want) || !slices.Equal(d.Pending(), want) {
		t.Errorf("%v and %v; want %v", second, d.Pending(), want)
	}
	checkWrite(t, d, 0, sectorA, api.OK)
	checkFlush(t, d, api.OK)
	if !slices.Equal(second, []int{3, 1, 2}) {
		t.Errorf("an answer became %v", second)
	}
	checkBytes(t, "the image", d.Image(), strings.Repeat(sectorA, 4))
}

// R4

// TestTwoDisks: what one is told, the other does not see.
func TestTwoDisks(t *testing.T) {
	r := rand.New(rand.NewSource(11))
	for range 100 {
		image := drawn(r, size*(1+r.Intn(3)))
		first, second := loaded(t, image), loaded(t, image)
		m, other := &model{safe: []byte(image)}, &model{safe: []byte(image)}
		for range 100 {
			doOne(t, r, first, m)
			checkLook(t, second, other.look())
			doOne(t, r, second, other)
			checkLook(t, first, m.look())
		}
	}
}

// R7

// TestAsksSideBySide: calls that only ask.
func TestAsksSideBySide(t *testing.T) {
	d := loaded(t, mixed(8))
	for n := range 8 {
		checkWrite(t, d, n, sectorA, api.OK)
	}
	want := lookAt(d)
	got := make([]look, 16)
	var all sync.WaitGroup
	for i := range got {
		all.Go(func() { got[i] = lookAt(d) })
	}
	all.Wait()
	for _, l := range got {
		if l.size != want.size || l.off != want.off || l.stats != want.stats || l.image != want.image || !slices.Equal(l.pending, want.pending) {
			t.Error("side by side another answer")
		}
	}
}
