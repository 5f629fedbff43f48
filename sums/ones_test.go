package sums_test

import (
	"math/big"
	"strings"
	"testing"

	"turnout/sums"
)

// wordsOf are the words of b.
func wordsOf(b string) []uint16 {
	var out []uint16
	if len(b)%2 == 1 {
		b += "\x00"
	}
	for ; b != ""; b = b[2:] {
		out = append(out, uint16(b[0])<<8|uint16(b[1]))
	}
	return out
}

// bytesOf are the bytes of words.
func bytesOf(words []uint16) string {
	var out []byte
	for _, w := range words {
		out = append(out, byte(w>>8), byte(w))
	}
	return string(out)
}

// onesOf works out a sum of ones by numbers of any size: what is folded is 0 of noughts alone, else it is 1 to FFFF and the same modulo FFFF.
func onesOf(words ...uint16) uint16 {
	sum := new(big.Int)
	for _, w := range words {
		sum.Add(sum, big.NewInt(int64(w)))
	}
	if sum.Sign() == 0 {
		return 0xFFFF
	}
	rest := new(big.Int).Mod(sum, big.NewInt(0xFFFF)).Uint64()
	if rest == 0 {
		rest = 0xFFFF
	}
	return uint16(0xFFFF - rest)
}

// wordsAtEnds are words at all ends.
func wordsAtEnds() []uint16 {
	list := []uint16{0, 1, 2, 3, 0x7FFF, 0x8000, 0x8001, 0xFF00, 0x00FF, 0x0100, 0xFFFD, 0xFFFE, 0xFFFF, 0x1234}
	for n := range 16 {
		list = append(list, 1<<n)
	}
	return list
}

// P2.4

func TestOnesExamples(t *testing.T) {
	for _, c := range []struct {
		b    string
		want uint16
	}{
		{"", 0xFFFF},
		{"\x00", 0xFFFF},
		{"\x00\x00\x00", 0xFFFF},
		{"\x00\x00\x00\x00", 0xFFFF},
		{"\x00\x01\xF2\x03\xF4", 0x19FA},
		{"\x00\x01\xFF\xFE", 0x0000},
		{"\xFF\xFF", 0x0000},
		{"\x12", 0xEDFF},
		{"\x00\x12", 0xFFED},
		{"\x00\x00\x12", 0xEDFF},
		{"\xFF\xFF\xFF\xFF", 0x0000},
		{"\xFF\xFF\x00\x01", 0xFFFE},
	} {
		if a := sums.Ones(c.b); a != c.want {
			t.Errorf("Ones of % X is %04X, not %04X", c.b, a, c.want)
		}
	}
}

func TestOnesOfAllLengths(t *testing.T) {
	for _, b := range texts() {
		if a, want := sums.Ones(b), onesOf(wordsOf(b)...); a != want {
			t.Errorf("Ones of % X is %04X, not %04X", b, a, want)
		}
	}
}

// The sum of 2^17 words FFFF is 1FFFE0000: what stands above 16 bits is 1FFFE, which folds once more.
func TestOnesFoldsMoreThanOnce(t *testing.T) {
	for _, n := range []int{1 << 16, 1<<16 + 1, 1 << 17, 1<<17 + 1} {
		for _, end := range []string{"", "\x00", "\x01", "\x00\x01", "\xFF\xFF\x01"} {
			b := strings.Repeat("\xFF\xFF", n) + end
			if a, want := sums.Ones(b), onesOf(wordsOf(b)...); a != want {
				t.Errorf("Ones of %d words FFFF and % X is %04X, not %04X", n, end, a, want)
			}
		}
	}
}

// P2.5

func TestPatchExamples(t *testing.T) {
	for _, c := range []struct{ sum, old, fresh, want uint16 }{
		{0xFFFC, 1, 3, 0xFFFA},
		{0xFFFE, 1, 0, 0},
		{0xFFFF, 0xFFFF, 0, 0xFFFF},
		{0, 0, 0xFFFF, 0},
		{0, 0, 0, 0},
		{0xFFFF, 0, 0, 0},
		{0xFFFF, 0xFFFF, 0xFFFF, 0},
	} {
		if a := sums.Patch(c.sum, c.old, c.fresh); a != c.want {
			t.Errorf("Patch(%04X, %04X, %04X) is %04X, not %04X", c.sum, c.old, c.fresh, a, c.want)
		}
	}
}

func TestPatchIsTheSumOfThree(t *testing.T) {
	for _, sum := range wordsAtEnds() {
		for _, old := range wordsAtEnds() {
			for _, fresh := range wordsAtEnds() {
				if a, want := sums.Patch(sum, old, fresh), onesOf(0xFFFF-sum, 0xFFFF-old, fresh); a != want {
					t.Errorf("Patch(%04X, %04X, %04X) is %04X, not %04X", sum, old, fresh, a, want)
				}
			}
		}
	}
}

// P2.10

func TestOnesBehindTheBytes(t *testing.T) {
	for _, b := range texts() {
		if len(b)%2 != 0 {
			continue
		}
		s := sums.Ones(b)
		if a := sums.Ones(b + bytesOf([]uint16{s})); a != 0 {
			t.Errorf("Ones of % X with %04X behind it is %04X", b, s, a)
		}
	}
}

func TestOnesInAnyOrder(t *testing.T) {
	d := draws()
	for n := range 60 {
		words := wordsOf(text(d, 2*n))
		s := sums.Ones(bytesOf(words))
		d.Shuffle(len(words), func(i, j int) { words[i], words[j] = words[j], words[i] })
		if a := sums.Ones(bytesOf(words)); a != s {
			t.Errorf("%d words in another order: %04X, not %04X", n, a, s)
		}
		for i, w := range words {
			words[i] = w<<8 | w>>8
		}
		if a := sums.Ones(bytesOf(words)); a != s<<8|s>>8 {
			t.Errorf("%d words with their bytes in the other order: %04X beside %04X", n, a, s)
		}
	}
}

// patches holds Patch against Ones, where word i of words becomes fresh.
func patches(t *testing.T, words []uint16, i int, fresh uint16) {
	t.Helper()
	sum, old := sums.Ones(bytesOf(words)), words[i]
	after := append([]uint16(nil), words...)
	after[i] = fresh
	b := bytesOf(after)
	if strings.Trim(b, "\x00") == "" {
		return
	}
	if a, want := sums.Patch(sum, old, fresh), sums.Ones(b); a != want {
		t.Errorf("words %04X, word %d becomes %04X: Patch is %04X, Ones %04X", words, i, fresh, a, want)
	}
}

func TestPatchFollowsOnes(t *testing.T) {
	d := draws()
	for _, old := range wordsAtEnds() {
		for _, fresh := range wordsAtEnds() {
			patches(t, []uint16{old}, 0, fresh)
			patches(t, []uint16{0, old, 0}, 1, fresh)
			patches(t, []uint16{0xFFFF, old}, 1, fresh)
			words := wordsOf(text(d, 2+2*d.Intn(30)))
			i := d.Intn(len(words))
			words[i] = old
			patches(t, words, i, fresh)
		}
	}
}

// Where all bytes are 0 then, Patch says 0 and Ones FFFF.
func TestPatchToNoughtsAlone(t *testing.T) {
	if a, b := sums.Patch(sums.Ones("\x00\x01"), 1, 0), sums.Ones("\x00\x00"); a != 0 || b != 0xFFFF {
		t.Errorf("Patch %04X, Ones %04X", a, b)
	}
}
