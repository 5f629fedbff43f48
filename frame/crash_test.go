package frame_test

import (
	"math"
	"math/rand"
	"strings"
	"testing"

	"turnout/api"
	"turnout/disk"
	"turnout/frame"
	"turnout/sums"
)

// laid is what a crash makes of a sector's bytes and of those that were written over them.
func laid(sector string, writes []string, fates []api.Fate) string {
	for i, w := range writes {
		if i >= len(fates) {
			break
		}
		kept := 0
		switch fates[i].Kind {
		case api.Kept:
			kept = size
		case api.Torn:
			kept = min(max(fates[i].At, 0), size)
		}
		sector = w[:kept] + sector[kept:]
	}
	return sector
}

// checkCrash puts frames into a sector that holds some bytes, with no Flush between, lets them meet fates, and looks at what F4 says. It answers what Get told.
func checkCrash(t *testing.T, sector string, frames []api.Frame, fates ...api.Fate) (api.Frame, api.Errno) {
	t.Helper()
	d := loaded(t, sector)
	before, beforeError := frame.Get(d, 0)
	var writes []string
	for i, f := range frames {
		checkPut(t, d, 0, f, api.OK)
		writes = append(writes, rawOf(f, int(sector[511]+byte(i+1))).bytes())
	}
	d.Crash(fates...)
	checkBytes(t, d.Image(), laid(sector, writes, fates))
	f, e := frame.Get(d, 0)
	if f == before && e == beforeError || f == (api.Frame{}) && e == api.ErrTorn {
		return f, e
	}
	for _, one := range frames {
		if f == one && e == api.OK {
			return f, e
		}
	}
	t.Fatalf("behind a Crash with %v: %s, %d", fates, short(f), e)
	return f, e
}

func torn(at int) api.Fate { return api.Fate{Kind: api.Torn, At: at} }

func kept() api.Fate { return api.Fate{Kind: api.Kept} }

// grounds are bytes over which frames are put: none's, a frame's, one that is torn, one of another sum, one without a form.
func grounds(r *rand.Rand, last byte) []string {
	whole := rawOf(drawnFrame(r), int(last))
	tornOne, another, wrong := whole, whole, whole
	tornOne.mark++
	another.turned = 1 << 20
	wrong.kind = 0
	ahead := repeated(last+1, 1) + repeated(last, 511)
	return []string{repeated(last, size), drawn(r, 511) + repeated(last, 1), ahead, whole.bytes(), tornOne.bytes(), another.bytes(), wrong.bytes()}
}

// F4

// TestOnePut: torn at every place.
func TestOnePut(t *testing.T) {
	r := rand.New(rand.NewSource(5))
	for _, last := range []byte{0, 1, 128, 254, 255} {
		for _, sector := range grounds(r, last) {
			f := drawnFrame(r)
			before := read(sector)
			for at := -1; at <= 513; at++ {
				got, e := checkCrash(t, sector, []api.Frame{f}, torn(at))
				switch {
				case at <= 0 && (got != before.f || e != before.e):
					t.Fatalf("lost: %s, %d; want %s", short(got), e, before)
				case at >= 512 && (got != f || e != api.OK):
					t.Fatalf("kept: %s, %d; want %s", short(got), e, short(f))
				case at > 0 && at < 512 && e != api.ErrTorn:
					t.Fatalf("torn at %d: %s, %d", at, short(got), e)
				}
			}
			checkCrash(t, sector, []api.Frame{f})
			checkCrash(t, sector, []api.Frame{f}, kept())
			checkCrash(t, sector, []api.Frame{f}, api.Fate{Kind: api.Lost, At: 5})
			checkCrash(t, sector, []api.Frame{f}, api.Fate{Kind: -1, At: math.MaxInt})
		}
	}
}

// TestTwoPuts: one over the other, both of them kept, lost or torn.
func TestTwoPuts(t *testing.T) {
	r := rand.New(rand.NewSource(6))
	places := []int{0, 1, 2, 10, 16, 17, 100, 300, 506, 507, 508, 510, 511, 512}
	for _, last := range []byte{0, 253, 254, 255} {
		for _, sector := range grounds(r, last) {
			f, g := drawnFrame(r), drawnFrame(r)
			for _, a := range places {
				for _, b := range places {
					got, e := checkCrash(t, sector, []api.Frame{f, g}, torn(a), torn(b))
					switch {
					case b == 512 && (got != g || e != api.OK), b == 0 && a == 512 && (got != f || e != api.OK):
						t.Fatalf("torn at %d and %d: %s, %d", a, b, short(got), e)
					case b > 0 && b < 512 && e != api.ErrTorn:
						t.Fatalf("torn at %d and %d: %s, %d", a, b, short(got), e)
					}
				}
			}
		}
	}
}

// drawnFates are so many, most of them of one kind.
func drawnFates(r *rand.Rand, n int) []api.Fate {
	fates := make([]api.Fate, n)
	usual := pick(r, api.Lost, api.Kept, api.Torn)
	for i := range fates {
		fates[i] = api.Fate{Kind: pick(r, usual, usual, usual, api.Lost, api.Kept, api.Torn, 3), At: pick(r, 0, 1, 2, 511, 512, r.Intn(size), math.MinInt, math.MaxInt)}
	}
	return fates
}

func TestManyPuts(t *testing.T) {
	r := rand.New(rand.NewSource(7))
	for range 300 {
		for _, sector := range grounds(r, byte(r.Intn(256))) {
			frames := make([]api.Frame, pick(r, 0, 1, 2, 3, 4, 8))
			for i := range frames {
				frames[i] = drawnFrame(r)
			}
			checkCrash(t, sector, frames, drawnFates(r, r.Intn(len(frames)+2))...)
		}
	}
}

// TestMostPuts: 255 of them, so that each mark but the last byte's is one's; one is kept, another one is torn over it.
func TestMostPuts(t *testing.T) {
	r := rand.New(rand.NewSource(8))
	frames := make([]api.Frame, 255)
	for i := range frames {
		frames[i] = api.Frame{Kind: 1 + i, Number: r.Uint64(), Index: i, Body: drawn(r, 491)}
	}
	for _, last := range []byte{0, 7, 255} {
		for _, sector := range grounds(r, last) {
			for _, whole := range []int{-1, 0, 1, 100, 253, 254} {
				for _, over := range []int{-1, 0, 1, 101, 253, 254} {
					fates := make([]api.Fate, 255)
					if whole >= 0 {
						fates[whole] = kept()
					}
					if over >= 0 && over != whole {
						fates[over] = torn(1 + r.Intn(511))
					}
					got, e := checkCrash(t, sector, frames, fates...)
					if whole >= 0 && over <= whole && (got != frames[whole] || e != api.OK) {
						t.Fatalf("%d is kept, %d torn ahead of it: %s, %d", whole, over, short(got), e)
					}
					if over > whole && e != api.ErrTorn {
						t.Fatalf("%d is kept, %d torn behind it: %s, %d", whole, over, short(got), e)
					}
				}
			}
			checkCrash(t, sector, frames, drawnFates(r, 255)...)
		}
	}
}

// twin is a frame whose first bytes, up to a cut within the body, have the sum of another one's: so the one's beginning with the other one's end has a right sum, and is neither of them.
func twin(r *rand.Rand, f api.Frame, cut int) api.Frame {
	g := f
	g.Number++
	g.Body = drawn(r, len(f.Body))
	ahead, want := rawOf(g, 0).bytes()[1:cut-4], sums.Sum(rawOf(f, 0).bytes()[1:cut])
	g.Body = g.Body[:cut-4-16] + sums.Four(sums.Sum(ahead), want) + g.Body[cut-16:]
	return g
}

// TestNoSumIsLeanedOn: a torn write that would pass for a whole one, but for its marks.
func TestNoSumIsLeanedOn(t *testing.T) {
	r := rand.New(rand.NewSource(9))
	for range 300 {
		f := api.Frame{Kind: 3, Number: r.Uint64() >> 1, Index: r.Intn(1 << 31), Body: drawn(r, 491)}
		cut := 20 + r.Intn(507-20)
		g := twin(r, f, cut)
		for _, mark := range []int{0, 1, 254, 255} {
			sector, over := rawOf(f, mark).bytes(), rawOf(g, mark).bytes()
			if mixed := read(over[:cut] + sector[cut:]); mixed.e != api.OK || mixed.f == f || mixed.f == g {
				t.Fatalf("with one mark the mixture would be %s", mixed)
			}
			if _, e := checkCrash(t, sector, []api.Frame{g}, torn(cut)); e != api.ErrTorn {
				t.Fatalf("torn at %d: %d", cut, e)
			}
			if _, e := checkCrash(t, repeated(byte(mark), size), []api.Frame{f, g}, kept(), torn(cut)); e != api.ErrTorn {
				t.Fatalf("torn at %d over one that was kept: %d", cut, e)
			}
		}
	}
}

// TestCrashAgain: Puts, Crashes and Puts over what they left, at a disk whose other sectors have pending writes, too.
func TestCrashAgain(t *testing.T) {
	r := rand.New(rand.NewSource(10))
	for range 100 {
		d := loaded(t, grounds(r, byte(r.Intn(256)))...)
		for range 20 {
			checkRound(t, r, d)
		}
	}
}

// checkRound puts frames into drawn sectors, cut at times, crashes, and looks at each sector.
func checkRound(t *testing.T, r *rand.Rand, d *disk.Disk) {
	t.Helper()
	before, allowed := make([]answer, d.Size()), make([][]api.Frame, d.Size())
	for at := range before {
		before[at].f, before[at].e = frame.Get(d, at)
	}
	d.Cut(r.Intn(20))
	for range r.Intn(20) {
		at, f := r.Intn(d.Size()), drawnFrame(r)
		if e := frame.Put(d, at, f); e == api.OK {
			allowed[at] = append(allowed[at], f)
		} else if e != api.ErrPower {
			t.Fatalf("Put: %d", e)
		}
	}
	d.Crash(drawnFates(r, r.Intn(20))...)
	for at, was := range before {
		f, e := frame.Get(d, at)
		told := f == was.f && e == was.e || f == (api.Frame{}) && e == api.ErrTorn
		for _, one := range allowed[at] {
			told = told || f == one && e == api.OK
		}
		if !told {
			t.Fatalf("sector %d: %s, %d", at, short(f), e)
		}
	}
}

// TestPutOverTorn: what was torn is whole again behind one Put, and its mark is new to what stays behind it.
func TestPutOverTorn(t *testing.T) {
	f, g := api.Frame{Kind: 1, Body: strings.Repeat("f", 491)}, api.Frame{Kind: 2, Body: strings.Repeat("g", 491)}
	d := loaded(t, repeated(0, size))
	checkPut(t, d, 0, f, api.OK)
	d.Flush()
	for at := 1; at < size; at++ {
		for range 3 {
			checkPut(t, d, 0, g, api.OK)
			d.Crash(torn(at))
			checkNoGet(t, d, 0, api.ErrTorn)
		}
		checkPut(t, d, 0, f, api.OK)
		checkGet(t, d, 0, f)
		d.Flush()
		checkGet(t, d, 0, f)
		checkSector(t, d, 0, rawOf(f, (at+1)%256).bytes())
	}
}
