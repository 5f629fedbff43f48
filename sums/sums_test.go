package sums_test

import (
	"hash/crc32"
	"math"
	"math/rand"
	"strings"
	"testing"

	"turnout/api"
	"turnout/sums"
)

// turned is a register behind so many turns, as the document tells one; turnedBack is the register that was so many turns ahead of it.
func turned(r uint32, times int) uint32 {
	for range times {
		out := r & 1
		r >>= 1
		if out == 1 {
			r ^= 0xEDB88320
		}
	}
	return r
}

func turnedBack(r uint32, times int) uint32 {
	for range times {
		even, odd := r<<1, (r^0xEDB88320)<<1|1
		if turned(even, 1) == r {
			r = even
		} else if turned(odd, 1) == r {
			r = odd
		} else {
			panic("a register that no turn leads to")
		}
	}
	return r
}

// register is the register r behind the bytes of b.
func register(r uint32, b string) uint32 {
	for i := range len(b) {
		r = turned(r^uint32(b[i]), 8)
	}
	return r
}

// draws is a row of numbers that is the same one in each run.
func draws() *rand.Rand { return rand.New(rand.NewSource(2)) }

// text is a text of n bytes.
func text(d *rand.Rand, n int) string {
	b := make([]byte, n)
	d.Read(b)
	return string(b)
}

// numbers are registers and sums at all ends.
func numbers() []uint32 {
	list := []uint32{0, math.MaxUint32, 0xEDB88320, 0xCBF43926, 0x9BE3E0A3, 0x12345678}
	for n := range 32 {
		list = append(list, 1<<n, ^uint32(1<<n))
	}
	return list
}

// texts are texts of all short lengths, of bytes 0, FF and of any bytes.
func texts() []string {
	d := draws()
	list := []string{"", "a", "123456789", "1234", "56789"}
	for n := range 40 {
		list = append(list, strings.Repeat("\x00", n), strings.Repeat("\xff", n), text(d, n))
	}
	for n := range 256 {
		list = append(list, string([]byte{byte(n)}))
	}
	return append(list, text(d, 511), text(d, 512), text(d, 4097))
}

// P2.1

func TestSumExamples(t *testing.T) {
	for _, c := range []struct {
		parts []string
		want  uint32
	}{
		{nil, 0},
		{[]string{""}, 0},
		{[]string{"", "", ""}, 0},
		{[]string{"123456789"}, 0xCBF43926},
		{[]string{"1234", "", "56789"}, 0xCBF43926},
		{[]string{"", "1", "2", "3456789", ""}, 0xCBF43926},
	} {
		if a := sums.Sum(c.parts...); a != c.want {
			t.Errorf("Sum(%q) is %08X, not %08X", c.parts, a, c.want)
		}
	}
	if a := sums.More(sums.Sum("1234"), "56789"); a != 0xCBF43926 {
		t.Errorf("More(Sum(1234), 56789) is %08X", a)
	}
}

func TestSumIsTheRegister(t *testing.T) {
	for _, b := range texts() {
		want := ^register(0xFFFFFFFF, b)
		if a := sums.Sum(b); a != want || a != crc32.ChecksumIEEE([]byte(b)) {
			t.Errorf("Sum(%q) is %08X, not %08X", b, a, want)
		}
	}
}

func TestMoreIsTheRegister(t *testing.T) {
	for _, sum := range numbers() {
		for _, b := range texts()[:60] {
			if a, want := sums.More(sum, b), ^register(^sum, b); a != want {
				t.Errorf("More(%08X, %q) is %08X, not %08X", sum, b, a, want)
			}
		}
	}
}

func TestSumOfManyParts(t *testing.T) {
	d := draws()
	whole := text(d, 5000)
	for range 50 {
		var parts []string
		for at := 0; at < len(whole); {
			n := min(d.Intn(9), len(whole)-at)
			parts = append(parts, whole[at:at+n])
			at += n
		}
		if a := sums.Sum(parts...); a != ^register(0xFFFFFFFF, whole) {
			t.Errorf("Sum of %d parts is %08X", len(parts), a)
		}
	}
}

// P2.2

func TestJoinAndSplitOfNoLength(t *testing.T) {
	for _, n := range []int{-1, -2, -8, math.MinInt, math.MinInt + 1, math.MinInt32} {
		if a, e := sums.Join(1, 2, n); a != 0 || e != api.ErrArg {
			t.Errorf("Join(1, 2, %d) is %08X, %v", n, a, e)
		}
		if a, e := sums.Split(1, 2, n); a != 0 || e != api.ErrArg {
			t.Errorf("Split(1, 2, %d) is %08X, %v", n, a, e)
		}
	}
}

func join(t *testing.T, a, b uint32, n int) uint32 {
	t.Helper()
	whole, e := sums.Join(a, b, n)
	if e != api.OK {
		t.Errorf("Join(%08X, %08X, %d): %v", a, b, n, e)
	}
	return whole
}

func split(t *testing.T, whole, b uint32, n int) uint32 {
	t.Helper()
	a, e := sums.Split(whole, b, n)
	if e != api.OK {
		t.Errorf("Split(%08X, %08X, %d): %v", whole, b, n, e)
	}
	return a
}

// joins holds Join and Split of n against what the register is behind n bytes.
func joins(t *testing.T, a, b uint32, n int, behind uint32) {
	t.Helper()
	if whole := join(t, a, b, n); whole != behind^b {
		t.Errorf("Join(%08X, %08X, %d) is %08X, not %08X", a, b, n, whole, behind^b)
	}
	if back := split(t, behind^b, b, n); back != a {
		t.Errorf("Split(%08X, %08X, %d) is %08X, not %08X", behind^b, b, n, back, a)
	}
}

func TestJoinMakesTurns(t *testing.T) {
	for _, a := range numbers() {
		for n, behind := 0, a; n < 300; n, behind = n+1, turned(behind, 8) {
			joins(t, a, 0, n, behind)
			joins(t, a, 0xDEADBEEF, n, behind)
			joins(t, a, a, n, behind)
		}
	}
}

// As many turns as a register has values but 0 lead each one back to itself: so of great numbers only what is left modulo 2^32 - 1 counts, and of the ones below little is left, or nearly all.
func TestJoinOfGreatLengths(t *testing.T) {
	const round = 1<<32 - 1
	lengths := []int{round, round + 1, round - 1, 7 * round, math.MaxInt, math.MaxInt - 1, math.MaxInt - 9, 1 << 62, 1<<62 - 1, 1<<62 + 3, 1 << 61, 1 << 29, 1<<29 + 1, 1 << 30, 1 << 31, 1 << 33, 3 << 29, math.MaxInt / 7 * 7}
	for n := range 63 {
		lengths = append(lengths, 1<<n, 1<<n-1, 1<<n+1)
	}
	held := 0
	for _, n := range lengths {
		turns := uint64(n) % round * 8 % round
		for _, a := range numbers() {
			if turns < 1000 {
				joins(t, a, 0x5A5A5A5A, n, turned(a, int(turns)))
				held++
			} else if turns > round-1000 {
				joins(t, a, 0x5A5A5A5A, n, turnedBack(a, int(round-turns)))
				held++
			}
		}
	}
	if held < 1000 {
		t.Errorf("only %d were held against turns", held)
	}
}

func TestJoinsOneBehindTheOther(t *testing.T) {
	d := draws()
	for range 500 {
		a, b, n, m := d.Uint32(), d.Uint32(), d.Intn(math.MaxInt/2), d.Intn(math.MaxInt/2)
		if two, one := join(t, join(t, a, 0, n), b, m), join(t, a, b, n+m); two != one {
			t.Errorf("%08X behind %d and %d bytes is %08X, behind all of them %08X", a, n, m, two, one)
		}
		if back := split(t, join(t, a, b, n), b, n); back != a {
			t.Errorf("%08X became %08X by Join and Split of %d", a, back, n)
		}
		if whole := join(t, split(t, a, b, n), b, n); whole != a {
			t.Errorf("%08X became %08X by Split and Join of %d", a, whole, n)
		}
	}
}

// P2.3

func TestFourExamples(t *testing.T) {
	if y := sums.Four(0, 0); y != "\x9D\x0A\xD9\x6D" {
		t.Errorf("Four(0, 0) is % X", y)
	}
	if y := sums.Four(0, 0xFFFFFFFF); y != "\xFF\xFF\xFF\xFF" {
		t.Errorf("Four(0, FFFFFFFF) is % X", y)
	}
}

func TestFourLeadsThere(t *testing.T) {
	for _, sum := range numbers() {
		for _, want := range numbers() {
			y := sums.Four(sum, want)
			if len(y) != 4 || ^register(^sum, y) != want {
				t.Errorf("Four(%08X, %08X) is % X", sum, want, y)
			}
		}
	}
}

func TestFourIsTheOnlyRow(t *testing.T) {
	d := draws()
	for range 2000 {
		sum, y := d.Uint32(), text(d, 4)
		if a := sums.Four(sum, ^register(^sum, y)); a != y {
			t.Errorf("from %08X: % X, not % X", sum, a, y)
		}
	}
}

// P2.8

func TestJoinedAndSplitTexts(t *testing.T) {
	list := texts()
	list = append(list[:60], list[len(list)-3:]...)
	for _, x := range list {
		for _, y := range list {
			sx, sy, whole := sums.Sum(x), sums.Sum(y), sums.Sum(x, y)
			if a := join(t, sx, sy, len(y)); a != whole {
				t.Errorf("Join of the sums of %q and %q is %08X, not %08X", x, y, a, whole)
			}
			if a := split(t, whole, sy, len(y)); a != sx {
				t.Errorf("Split of the sums of %q and %q is %08X, not %08X", x, y, a, sx)
			}
			if a, b := sums.More(sx, y), sums.Sum(x+y); a != whole || b != whole {
				t.Errorf("%q and %q: More %08X, Sum of the whole %08X, of the two %08X", x, y, a, b, whole)
			}
		}
	}
}

func TestThreeTextsXored(t *testing.T) {
	d := draws()
	for n := range 70 {
		x, y, z := text(d, n), text(d, n), text(d, n)
		all := []byte(x)
		for i := range all {
			all[i] ^= y[i] ^ z[i]
		}
		if a, b := sums.Sum(x)^sums.Sum(y)^sums.Sum(z), sums.Sum(string(all)); a != b {
			t.Errorf("%d bytes: %08X and %08X", n, a, b)
		}
	}
}

// P2.9

// changed is b with the bits of how xored in from bit at on, in the order that the document counts them.
func changed(b string, at int, how uint32) string {
	out := []byte(b)
	for i := range 32 {
		if how>>i&1 == 1 {
			out[(at+i)/8] ^= 1 << ((at + i) % 8)
		}
	}
	return string(out)
}

func TestNeighbouringBitsAreSeen(t *testing.T) {
	d := draws()
	for range 300 {
		b := text(d, 4+d.Intn(60))
		at := d.Intn(len(b)*8 - 31)
		for _, how := range append(numbers(), d.Uint32(), d.Uint32()) {
			if how != 0 && sums.Sum(changed(b, at, how)) == sums.Sum(b) {
				t.Errorf("%q with %08X from bit %d on has the same Sum", b, how, at)
			}
		}
	}
}
