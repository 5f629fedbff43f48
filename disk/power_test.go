package disk_test

import (
	"math"
	"slices"
	"strings"
	"testing"

	"turnout/api"
	"turnout/disk"
)

// doStep does a Write, or a Flush.
func doStep(d *disk.Disk, flush bool) api.Errno {
	if flush {
		return d.Flush()
	}
	return d.Write(1, sectorB)
}

// checkSteps holds against each other how many steps are done ahead of the cut; -1: none is cut.
func checkSteps(t *testing.T, d *disk.Disk, flush func(i int) bool, want int) {
	t.Helper()
	for i := range 40 {
		if i == want {
			if e := doStep(d, flush(i)); e != api.ErrPower || !d.Off() {
				t.Fatalf("the step %d: %d, off %v", i+1, e, d.Off())
			}
			return
		}
		if e := doStep(d, flush(i)); e != api.OK || d.Off() {
			t.Fatalf("the step %d of %d: %d, off %v", i+1, want+1, e, d.Off())
		}
	}
}

// orders are some in which Writes and Flushes may come.
func orders() []func(i int) bool {
	return []func(i int) bool{
		func(int) bool { return false },
		func(int) bool { return true },
		func(i int) bool { return i%2 == 0 },
		func(i int) bool { return i%3 == 2 },
	}
}

// D4

func TestCut(t *testing.T) {
	for _, steps := range []int{1, 2, 3, 4, 5, 17, 40} {
		for _, flush := range orders() {
			d := fresh(t, 2)
			checkSteps(t, d, flush, -1)
			d.Cut(steps)
			if d.Off() {
				t.Fatal("the power goes at a step, not at the Cut")
			}
			checkSteps(t, d, flush, steps-1)
		}
	}
}

// TestCutOff: behind the cut nothing is done, till the Crash.
func TestCutOff(t *testing.T) {
	for _, flush := range []bool{false, true} {
		d := fresh(t, 2)
		checkWrite(t, d, 0, sectorA, api.OK)
		d.Cut(1)
		if e := doStep(d, flush); e != api.ErrPower {
			t.Fatalf("the cut step: %d", e)
		}
		want := look{size: 2, off: true, pending: []int{0}, image: noughts + noughts, stats: api.Stats{Writes: 1}}
		for range 3 {
			checkLook(t, d, want)
			checkNoRead(t, d, 0, api.ErrPower)
			checkWrite(t, d, 0, sectorB, api.ErrPower)
			checkFlush(t, d, api.ErrPower)
		}
		d.Crash(api.Fate{Kind: api.Kept}, api.Fate{Kind: api.Kept})
		checkLook(t, d, look{size: 2, image: sectorA + noughts, stats: api.Stats{Writes: 1}})
		checkSteps(t, d, orders()[2], -1)
	}
}

// TestCutNever: below 1 no cut is planned, and none that was planned ahead of it.
func TestCutNever(t *testing.T) {
	for _, steps := range []int{math.MinInt, math.MinInt + 1, -4097, -2, -1, 0} {
		d := fresh(t, 2)
		d.Cut(steps)
		checkSteps(t, d, orders()[0], -1)
		for _, planned := range []int{1, 2, 3, math.MaxInt} {
			d.Cut(planned)
			d.Cut(steps)
			checkSteps(t, d, orders()[0], -1)
		}
	}
}

// TestCutAnew: what was planned last counts, from then on.
func TestCutAnew(t *testing.T) {
	for _, first := range []int{1, 2, 5, 9, math.MaxInt} {
		for _, second := range []int{1, 2, 5, 9} {
			for done := range min(first, 4) {
				d := fresh(t, 2)
				d.Cut(first)
				for range done {
					checkFlush(t, d, api.OK)
				}
				d.Cut(second)
				checkSteps(t, d, orders()[2], second-1)
			}
		}
	}
}

func TestCutFarAway(t *testing.T) {
	for _, steps := range []int{math.MaxInt, math.MaxInt32 + 1, 41} {
		d := fresh(t, 2)
		d.Cut(steps)
		checkSteps(t, d, orders()[3], -1)
	}
}

// TestCutWhereGone: nothing is planned, nor brought back.
func TestCutWhereGone(t *testing.T) {
	for _, steps := range []int{math.MinInt, -1, 0, 1, 2, 3, math.MaxInt} {
		d := fresh(t, 2)
		d.Cut(1)
		checkFlush(t, d, api.ErrPower)
		d.Cut(steps)
		if !d.Off() {
			t.Fatal("a Cut brings no power")
		}
		checkWrite(t, d, 0, sectorA, api.ErrPower)
		d.Crash()
		checkSteps(t, d, orders()[0], -1)
	}
}

// TestNoStep: what is refused, and what is no Write and no Flush, comes no nearer to the cut.
func TestNoStep(t *testing.T) {
	for _, steps := range []int{1, 2, 3} {
		d := fresh(t, 2)
		checkWrite(t, d, 0, sectorA, api.OK)
		d.Cut(steps)
		for i := range steps {
			checkWrite(t, d, 9, sectorA, api.ErrSector)
			checkWrite(t, d, -1, sectorA, api.ErrSector)
			for _, s := range wrongTexts() {
				checkWrite(t, d, 0, s, api.ErrSize)
				checkWrite(t, d, 2, s, api.ErrSector)
			}
			checkNoRead(t, d, 2, api.ErrSector)
			checkRead(t, d, 0, sectorA)
			lookAt(d)
			if i < steps-1 {
				checkWrite(t, d, 1, sectorB, api.OK)
			}
		}
		checkWrite(t, d, 1, sectorC, api.ErrPower)
		if s := d.Stats(); s != (api.Stats{Reads: steps, Writes: steps}) {
			t.Errorf("counted: %+v", s)
		}
	}
}

// D5

func TestFates(t *testing.T) {
	for _, c := range []struct {
		fate api.Fate
		want int // how many bytes are kept
	}{
		{api.Fate{}, 0},
		{api.Fate{Kind: api.Lost, At: 512}, 0},
		{api.Fate{Kind: api.Lost, At: 7}, 0},
		{api.Fate{Kind: api.Kept}, 512},
		{api.Fate{Kind: api.Kept, At: 3}, 512},
		{api.Fate{Kind: api.Kept, At: -3}, 512},
		{api.Fate{Kind: api.Kept, At: math.MaxInt}, 512},
		{api.Fate{Kind: api.Torn, At: math.MinInt}, 0},
		{api.Fate{Kind: api.Torn, At: -512}, 0},
		{api.Fate{Kind: api.Torn, At: -1}, 0},
		{api.Fate{Kind: api.Torn, At: 513}, 512},
		{api.Fate{Kind: api.Torn, At: 1024}, 512},
		{api.Fate{Kind: api.Torn, At: 1 << 32}, 512},
		{api.Fate{Kind: api.Torn, At: math.MaxInt}, 512},
		{api.Fate{Kind: 3, At: 512}, 0},
		{api.Fate{Kind: 9, At: 3}, 0},
		{api.Fate{Kind: -1, At: 512}, 0},
		{api.Fate{Kind: -2, At: 3}, 0},
		{api.Fate{Kind: 1<<32 + api.Kept, At: 3}, 0},
		{api.Fate{Kind: math.MaxInt, At: 512}, 0},
		{api.Fate{Kind: math.MinInt, At: 512}, 0},
	} {
		checkFate(t, c.fate, c.want)
	}
	for at := range size + 1 {
		checkFate(t, api.Fate{Kind: api.Torn, At: at}, at)
	}
}

// checkFate lets a write meet a fate, over bytes that were flushed, the power being on and gone.
func checkFate(t *testing.T, f api.Fate, kept int) {
	t.Helper()
	for _, gone := range []bool{false, true} {
		d := loaded(t, sectorC+sectorA+sectorC)
		checkWrite(t, d, 1, sectorB, api.OK)
		if gone {
			d.Cut(1)
			checkFlush(t, d, api.ErrPower)
		}
		d.Crash(f)
		want := sectorB[:kept] + sectorA[kept:]
		checkLook(t, d, look{size: 3, image: sectorC + want + sectorC, stats: api.Stats{Writes: 1}})
		checkRead(t, d, 1, want)
		checkRead(t, d, 2, sectorC)
	}
}

// TestEachItsOwn: the i-th write meets the i-th fate, at one sector and at several.
func TestEachItsOwn(t *testing.T) {
	torn := func(at int) api.Fate { return api.Fate{Kind: api.Torn, At: at} }
	kept, lost := api.Fate{Kind: api.Kept}, api.Fate{Kind: api.Lost}
	for _, c := range []struct {
		fates []api.Fate
		want  string
	}{
		{nil, noughts + noughts},
		{[]api.Fate{kept}, sectorA + noughts},
		{[]api.Fate{lost, kept}, noughts + sectorB},
		{[]api.Fate{kept, kept}, sectorA + sectorB},
		{[]api.Fate{kept, kept, kept}, sectorC + sectorB},
		{[]api.Fate{kept, lost, lost, kept}, sectorA + sectorA},
		{[]api.Fate{kept, kept, torn(100), torn(511)}, sectorC[:100] + sectorA[100:] + sectorA[:511] + "b"},
		{[]api.Fate{torn(100), lost, torn(3)}, "ccc" + sectorA[:97] + noughts[100:] + noughts},
		{[]api.Fate{torn(3), lost, torn(100)}, sectorC[:100] + noughts[100:] + noughts},
		{[]api.Fate{lost, lost, lost, lost, kept, kept, kept}, noughts + noughts},
		{[]api.Fate{kept, kept, lost, torn(1), kept}, sectorA + "a" + sectorB[1:]},
	} {
		d := fresh(t, 2)
		checkWrite(t, d, 0, sectorA, api.OK)
		checkWrite(t, d, 1, sectorB, api.OK)
		checkWrite(t, d, 0, sectorC, api.OK)
		checkWrite(t, d, 1, sectorA, api.OK)
		d.Crash(c.fates...)
		checkLook(t, d, look{size: 2, image: c.want, stats: api.Stats{Writes: 4}})
		checkRead(t, d, 0, c.want[:size])
		checkRead(t, d, 1, c.want[size:])
		d.Crash(kept, kept, kept, kept)
		checkBytes(t, "the image behind one more Crash", d.Image(), c.want)
	}
}

// TestCrashOfNothing: fates without writes, and writes that a Flush made safe, which meet none.
func TestCrashOfNothing(t *testing.T) {
	d := loaded(t, sectorA+sectorB)
	d.Crash(api.Fate{Kind: api.Kept}, api.Fate{Kind: api.Torn, At: 5})
	checkLook(t, d, look{size: 2, image: sectorA + sectorB})
	checkWrite(t, d, 0, sectorC, api.OK)
	checkFlush(t, d, api.OK)
	checkWrite(t, d, 1, sectorA, api.OK)
	d.Crash(api.Fate{Kind: api.Torn, At: 5})
	checkLook(t, d, look{size: 2, image: sectorC + sectorA[:5] + sectorB[5:], stats: api.Stats{Writes: 2, Flushes: 1}})
}

// TestCrashEndsPlans: behind a Crash the power is on, and no cut is planned.
func TestCrashEndsPlans(t *testing.T) {
	for _, steps := range []int{1, 2, 5, 30} {
		d := fresh(t, 2)
		d.Cut(steps)
		d.Crash()
		checkSteps(t, d, orders()[2], -1)
		d.Cut(steps)
		checkSteps(t, d, orders()[2], steps-1)
		d.Crash()
		checkSteps(t, d, orders()[2], -1)
	}
}

// D6

// TestAsks: they change nothing, the power being on and gone, a cut being planned or not.
func TestAsks(t *testing.T) {
	for _, cut := range []int{0, 1, 2} {
		d := fresh(t, 2)
		d.Cut(cut)
		for range 2 {
			for range 5 {
				first := lookAt(d)
				checkLook(t, d, first)
			}
			d.Write(1, sectorA)
		}
		writes := 2
		if cut > 0 {
			writes = cut - 1
		}
		pending := slices.Repeat([]int{1}, writes)
		checkLook(t, d, look{size: 2, off: cut > 0, pending: pending, image: noughts + noughts, stats: api.Stats{Writes: writes}})
	}
}

// TestStats: what answered no error is counted, and a Crash changes nothing of it.
func TestStats(t *testing.T) {
	d := fresh(t, 2)
	want := api.Stats{}
	for i := range 5 {
		for range 3 {
			checkRead(t, d, 0, noughts)
			want.Reads++
		}
		for range 2 {
			checkWrite(t, d, 1, sectorA, api.OK)
			want.Writes++
		}
		checkFlush(t, d, api.OK)
		want.Flushes++
		d.Read(2)
		d.Write(2, sectorA)
		d.Write(0, "")
		d.Cut(1)
		doStep(d, i%2 == 0)
		d.Read(0)
		d.Flush()
		d.Write(0, sectorA)
		if got := d.Stats(); got != want {
			t.Fatalf("%+v; want %+v", got, want)
		}
		d.Crash(api.Fate{Kind: api.Kept})
		if got := d.Stats(); got != want {
			t.Fatalf("%+v behind a Crash; want %+v", got, want)
		}
	}
}

// TestPending: in the order of the writes, a sector as often as it was written.
func TestPending(t *testing.T) {
	d := fresh(t, 4096)
	var want []int
	for i := range 300 {
		n := i * 1117 % 4096 / (1 + i%7)
		checkWrite(t, d, n, sectorA, api.OK)
		want = append(want, n)
		if got := d.Pending(); !slices.Equal(got, want) {
			t.Fatalf("%v; want %v", got, want)
		}
	}
	d.Cut(1)
	checkFlush(t, d, api.ErrPower)
	if got := d.Pending(); !slices.Equal(got, want) {
		t.Fatalf("the power gone: %v; want %v", got, want)
	}
	if d.Crash(); len(d.Pending()) != 0 || d.Image() != strings.Repeat(noughts, 4096) {
		t.Fatal("something is pending behind a Crash, or was kept")
	}
}
