package sums_test

import (
	"math"
	"math/big"
	"slices"
	"strconv"
	"testing"

	"turnout/api"
	"turnout/sums"
)

// spreadOf works out a spreading number by numbers of any size.
func spreadOf(seed uint32, b string) uint32 {
	all := new(big.Int).Lsh(big.NewInt(1), 32)
	times := func(h *big.Int, n int64) *big.Int {
		h.Mul(h, big.NewInt(n))
		return h.Mod(h, all)
	}
	h := big.NewInt(0x811C9DC5)
	h.Xor(h, big.NewInt(int64(seed)))
	for i := range len(b) {
		h.Xor(h, big.NewInt(int64(b[i])))
		times(h, 0x01000193)
	}
	h.Xor(h, new(big.Int).Rsh(h, 16))
	times(h, 0x85EBCA6B)
	h.Xor(h, new(big.Int).Rsh(h, 13))
	return uint32(h.Uint64())
}

// slotsOf finds slots as the document tells them, number by number; false, if a text finds none.
func slotsOf(seed uint32, most int, l []string) ([]int, bool) {
	var out []int
	for i, text := range l {
		if j := slices.Index(l[:i], text); j >= 0 {
			out = append(out, out[j])
			continue
		}
		s := int(spreadOf(seed, text)) % most
		tried := 0
		for ; tried < most && slices.Contains(out, s); tried++ {
			if s++; s == most {
				s = 0
			}
		}
		if tried == most {
			return nil, false
		}
		out = append(out, s)
	}
	return out, true
}

// holds holds Slots against slotsOf.
func holds(t *testing.T, seed uint32, most int, l []string) {
	t.Helper()
	want, ok := slotsOf(seed, most, l)
	got, e := sums.Slots(seed, most, l...)
	if ok != (e == api.OK) || !ok && e != api.ErrFull || !slices.Equal(got, want) {
		t.Errorf("Slots(%d, %d, %q) is %v, %v, not %v", seed, most, l, got, e, want)
	}
}

// unlike are n texts, no two of them the same.
func unlike(n int) []string {
	var out []string
	for i := range n {
		out = append(out, "t"+strconv.Itoa(i))
	}
	return out
}

// P2.6

func TestSpreadExamples(t *testing.T) {
	if a, b, c := sums.Spread(0, ""), sums.Spread(0, "a"), sums.Spread(1, "a"); a != 0x5DB4A501 || b != 0x579640C7 || c != 0x808B09A9 {
		t.Errorf("%08X %08X %08X", a, b, c)
	}
}

func TestSpreadOfAnyBytes(t *testing.T) {
	for i, b := range texts() {
		for _, seed := range []uint32{0, 1, numbers()[i%len(numbers())], math.MaxUint32} {
			if a, want := sums.Spread(seed, b), spreadOf(seed, b); a != want {
				t.Errorf("Spread(%08X, %q) is %08X, not %08X", seed, b, a, want)
			}
		}
	}
}

func TestSpreadOfAllSeeds(t *testing.T) {
	for _, seed := range numbers() {
		for _, b := range []string{"", "\x00", "\xFF", "turnout"} {
			if a, want := sums.Spread(seed, b), spreadOf(seed, b); a != want {
				t.Errorf("Spread(%08X, %q) is %08X, not %08X", seed, b, a, want)
			}
		}
	}
}

// P2.7

func TestSlotsExamples(t *testing.T) {
	for _, c := range []struct {
		most int
		l    []string
		want []int
		e    api.Errno
	}{
		{3, []string{"a", "b", "a", "c"}, []int{2, 0, 2, 1}, api.OK},
		{1, []string{"a", "b"}, nil, api.ErrFull},
		{1, []string{"a"}, []int{0}, api.OK},
		{1, []string{"a", "a", "a"}, []int{0, 0, 0}, api.OK},
		{1, nil, nil, api.OK},
		{1, []string{"", ""}, []int{0, 0}, api.OK},
		{0, nil, nil, api.ErrArg},
		{0, []string{"a"}, nil, api.ErrArg},
		{-1, []string{"a", "b"}, nil, api.ErrArg},
		{math.MinInt, []string{"a", "b"}, nil, api.ErrArg},
	} {
		if l, e := sums.Slots(0, c.most, c.l...); e != c.e || !slices.Equal(l, c.want) {
			t.Errorf("Slots(0, %d, %q) is %v, %v, not %v, %v", c.most, c.l, l, e, c.want, c.e)
		}
	}
}

func TestSlotsOfAnyTexts(t *testing.T) {
	d := draws()
	for range 3000 {
		most := 1 + d.Intn(12)
		l := make([]string, d.Intn(2*most))
		for i := range l {
			l[i] = text(d, d.Intn(2)) + "abcdefghij"[:d.Intn(4)]
		}
		holds(t, d.Uint32(), most, l)
	}
}

func TestSlotsJustFull(t *testing.T) {
	for most := 1; most < 60; most++ {
		for _, seed := range []uint32{0, 1, 0xFFFFFFFF} {
			l := unlike(most)
			holds(t, seed, most, l)
			holds(t, seed, most, append(l, l[most/2]))
			holds(t, seed, most, append(l, "one more"))
			holds(t, seed, most, append(append(l, "one more"), l[0]))
			holds(t, seed, most+1, append(l, l[0], "one more", l[most-1]))
		}
	}
}

func TestSlotsOfGreatMost(t *testing.T) {
	d := draws()
	l := append(unlike(50), "", "t3")
	for _, most := range []int{math.MaxInt, math.MaxInt - 1, math.MaxUint32, math.MaxUint32 + 1, math.MaxUint32 - 1, math.MaxInt32, 1 << 31, 1 << 40} {
		holds(t, d.Uint32(), most, l)
	}
}

// A text at the last number, and one whose row begins there, too: the second one goes on at 0.
func TestSlotsGoRound(t *testing.T) {
	for _, most := range []int{2, 3, 5, 64} {
		var last []string
		for _, b := range unlike(10000) {
			if spreadOf(9, b)%uint32(most) == uint32(most-1) && len(last) < most {
				last = append(last, b)
			}
		}
		l, e := sums.Slots(9, most, last...)
		if e != api.OK || len(l) != most || l[0] != most-1 {
			t.Fatalf("most %d: %v, %v", most, l, e)
		}
		for i, s := range l[1:] {
			if s != i {
				t.Errorf("most %d: text %d has slot %d", most, i+1, s)
			}
		}
	}
}

func TestSlotsOfManyTextsEndSoon(t *testing.T) {
	const many = 1 << 18
	l, e := sums.Slots(3, many, unlike(many)...)
	if e != api.OK || len(l) != many {
		t.Fatal(len(l), e)
	}
	slices.Sort(l)
	for i, s := range l {
		if s != i {
			t.Fatalf("slot %d is not there", i)
		}
	}
}

func TestSlotsLeaveTheTexts(t *testing.T) {
	l := append(make([]string, 0, 9), "b", "a", "b")
	one, _ := sums.Slots(0, 4, l...)
	two, _ := sums.Slots(0, 4, l...)
	one = append(one[:1], -1, -1, -1)
	if !slices.Equal(l, []string{"b", "a", "b"}) || !slices.Equal(l[:9][3:], make([]string, 6)) {
		t.Errorf("the texts became %q", l[:9])
	}
	if two[1] == -1 || two[2] == -1 {
		t.Errorf("two answers share their memory: %v, %v", one, two)
	}
}

// P2.11

func TestSlotsAreUnlike(t *testing.T) {
	d := draws()
	for range 300 {
		n := 1 + d.Intn(40)
		most := n + d.Intn(10)
		texts := unlike(n)
		l, e := sums.Slots(d.Uint32(), most, texts...)
		if e != api.OK || len(l) != n {
			t.Fatalf("%d texts, most %d: %v, %v", n, most, l, e)
		}
		slices.Sort(l)
		if l[0] < 0 || l[n-1] >= most || len(slices.Compact(l)) != n {
			t.Errorf("%d texts, most %d: %v", n, most, l)
		}
	}
}

func TestSlotsInAnyOrder(t *testing.T) {
	d := draws()
	for range 300 {
		n := 1 + d.Intn(40)
		most, seed, texts := n+d.Intn(10), d.Uint32(), unlike(n)
		one, _ := sums.Slots(seed, most, texts...)
		d.Shuffle(n, func(i, j int) { texts[i], texts[j] = texts[j], texts[i] })
		two, _ := sums.Slots(seed, most, texts...)
		slices.Sort(one)
		slices.Sort(two)
		if !slices.Equal(one, two) {
			t.Errorf("%d texts, most %d: %v, in another order %v", n, most, one, two)
		}
	}
}
