package frame_test

import (
	"encoding/binary"
	"fmt"
	"hash/crc32"
	"math"
	"math/rand"
	"slices"
	"strings"
	"testing"

	"turnout/api"
	"turnout/disk"
	"turnout/frame"
)

const size = api.SectorSize

func repeated(b byte, n int) string { return strings.Repeat(string([]byte{b}), n) }

// A raw is a frame's bytes in the chapter's words, right or not: so that a fault can stand under a right sum.
type raw struct {
	mark   byte
	kind   byte
	number uint64
	index  uint32
	length uint16
	body   string // and noughts behind it
	last   byte
	turned uint32 // the bits of the sum that are turned
}

func rawOf(f api.Frame, mark int) raw {
	return raw{mark: byte(mark), kind: byte(f.Kind), number: f.Number, index: uint32(f.Index), length: uint16(len(f.Body)), body: f.Body, last: byte(mark)}
}

func (r raw) bytes() string {
	b := make([]byte, 512)
	b[0], b[1], b[511] = r.mark, r.kind, r.last
	binary.BigEndian.PutUint64(b[2:], r.number)
	binary.BigEndian.PutUint32(b[10:], r.index)
	binary.BigEndian.PutUint16(b[14:], r.length)
	copy(b[16:507], r.body)
	binary.LittleEndian.PutUint32(b[507:], crc32.ChecksumIEEE(b[1:507])^r.turned)
	return string(b)
}

// An answer is what Open tells.
type answer struct {
	f    api.Frame
	mark int
	e    api.Errno
}

func (a answer) String() string {
	return fmt.Sprintf("%s with the mark %d, %d", short(a.f), a.mark, a.e)
}

// short is a frame in few words.
func short(f api.Frame) string {
	return fmt.Sprintf("{%d %d %d %.20q of %d}", f.Kind, f.Number, f.Index, f.Body, len(f.Body))
}

// read is what Open must tell of bytes, in the chapter's words.
func read(s string) answer {
	if len(s) != 512 {
		return answer{e: api.ErrSize}
	}
	if s[0] != s[511] {
		return answer{e: api.ErrTorn}
	}
	b := []byte(s)
	if crc32.ChecksumIEEE(b[1:507]) != binary.LittleEndian.Uint32(b[507:]) {
		return answer{e: api.ErrSum}
	}
	index, length := binary.BigEndian.Uint32(b[10:]), int(binary.BigEndian.Uint16(b[14:]))
	if b[1] == 0 || index > 2147483647 || length > 491 {
		return answer{e: api.ErrFrame}
	}
	for _, c := range b[16+length : 507] {
		if c != 0 {
			return answer{e: api.ErrFrame}
		}
	}
	f := api.Frame{Kind: int(b[1]), Number: binary.BigEndian.Uint64(b[2:]), Index: int(index), Body: string(b[16 : 16+length])}
	return answer{f: f, mark: int(b[0])}
}

func checkOpen(t *testing.T, s string, want answer) {
	t.Helper()
	f, mark, e := frame.Open(s)
	if got := (answer{f, mark, e}); got != want {
		t.Fatalf("Open: %s; want %s", got, want)
	}
}

func checkSeal(t *testing.T, f api.Frame, mark int) string {
	t.Helper()
	s, e := frame.Seal(f, mark)
	if e != api.OK {
		t.Fatalf("Seal(%s, %d): %d", short(f), mark, e)
	}
	checkBytes(t, s, rawOf(f, mark).bytes())
	return s
}

func checkNoSeal(t *testing.T, f api.Frame, mark int, want api.Errno) {
	t.Helper()
	if s, e := frame.Seal(f, mark); s != "" || e != want {
		t.Fatalf("Seal(%s, %d): %d bytes, %d; want none, %d", short(f), mark, len(s), e, want)
	}
}

// checkBytes holds bytes against each other, and tells the first place alone at which they differ.
func checkBytes(t *testing.T, got, want string) {
	t.Helper()
	if len(got) != len(want) {
		t.Fatalf("%d bytes; want %d", len(got), len(want))
	}
	for i := range len(got) {
		if got[i] != want[i] {
			t.Fatalf("%#x at %d; want %#x", got[i], i, want[i])
		}
	}
}

func checkPut(t *testing.T, d *disk.Disk, at int, f api.Frame, want api.Errno) {
	t.Helper()
	if e := frame.Put(d, at, f); e != want {
		t.Fatalf("Put(%d, %s): %d; want %d", at, short(f), e, want)
	}
}

func checkGet(t *testing.T, d *disk.Disk, at int, want api.Frame) {
	t.Helper()
	if f, e := frame.Get(d, at); f != want || e != api.OK {
		t.Fatalf("Get(%d): %s, %d; want %s", at, short(f), e, short(want))
	}
}

func checkNoGet(t *testing.T, d *disk.Disk, at int, want api.Errno) {
	t.Helper()
	if f, e := frame.Get(d, at); f != (api.Frame{}) || e != want {
		t.Fatalf("Get(%d): %s, %d; want nothing, %d", at, short(f), e, want)
	}
}

// checkSector holds against each other what a sector reads as.
func checkSector(t *testing.T, d *disk.Disk, at int, want string) {
	t.Helper()
	s, e := d.Read(at)
	if e != api.OK {
		t.Fatalf("Read(%d): %d", at, e)
	}
	checkBytes(t, s, want)
}

func loaded(t *testing.T, sectors ...string) *disk.Disk {
	t.Helper()
	d, e := disk.Load(strings.Join(sectors, ""))
	if e != api.OK {
		t.Fatalf("Load: %d", e)
	}
	return d
}

// look is all that can be asked of a disk without a change of it.
type look struct {
	off     bool
	pending []int
	image   string
	stats   api.Stats
}

func lookAt(d *disk.Disk) look { return look{d.Off(), d.Pending(), d.Image(), d.Stats()} }

func checkLook(t *testing.T, d *disk.Disk, want look) {
	t.Helper()
	got := lookAt(d)
	if got.off != want.off || got.stats != want.stats || !slices.Equal(got.pending, want.pending) {
		t.Fatalf("off %v, %+v, pending %v; want %v, %+v, %v", got.off, got.stats, got.pending, want.off, want.stats, want.pending)
	}
	checkBytes(t, got.image, want.image)
}

func drawn(r *rand.Rand, n int) string {
	b := make([]byte, n)
	r.Read(b)
	return string(b)
}

func pick[T any](r *rand.Rand, list ...T) T { return list[r.Intn(len(list))] }

// drawnFrame is a right frame of a draw, at an edge now and then.
func drawnFrame(r *rand.Rand) api.Frame {
	return api.Frame{
		Kind:   pick(r, 1, 2, 3, 254, 255, 1+r.Intn(255)),
		Number: pick(r, 0, 1, 1<<63-1, 1<<63, math.MaxUint64, r.Uint64()),
		Index:  pick(r, 0, 1, 255, 256, 65536, 2147483646, 2147483647, r.Intn(1<<31)),
		Body:   pick(r, "", "\x00", "\xff", drawn(r, 490), drawn(r, 491), repeated(0, 491), drawn(r, r.Intn(492))),
	}
}

// rightFrames stand at the edges.
func rightFrames() []api.Frame {
	var list []api.Frame
	for _, kind := range []int{1, 2, 3, 127, 128, 254, 255} {
		list = append(list, api.Frame{Kind: kind})
	}
	for _, number := range []uint64{1, 255, 256, 0x0102030405060708, 1<<32 - 1, 1 << 32, 1 << 62, 1<<63 - 1, 1 << 63, math.MaxUint64} {
		list = append(list, api.Frame{Kind: 1, Number: number})
	}
	for _, index := range []int{1, 255, 256, 0x01020304, 65535, 65536, 2147483646, 2147483647} {
		list = append(list, api.Frame{Kind: 1, Index: index})
	}
	for _, length := range []int{1, 2, 255, 256, 257, 489, 490, 491} {
		list = append(list, api.Frame{Kind: 1, Body: repeated('x', length)}, api.Frame{Kind: 1, Body: repeated(0, length)})
	}
	return append(list, api.Frame{Kind: 255, Number: math.MaxUint64, Index: 2147483647, Body: repeated(255, 491)})
}

// wrongFrames are ErrArg, some of them with a Body that is too long, too.
func wrongFrames() []api.Frame {
	var list []api.Frame
	for _, body := range []string{"", "ab", repeated('x', 491), repeated('x', 492), repeated('x', 66000)} {
		for _, kind := range []int{0, -1, -255, 256, 257, 511, 65537, 1<<32 + 1, math.MinInt, math.MaxInt} {
			list = append(list, api.Frame{Kind: kind, Body: body}, api.Frame{Kind: kind, Number: 7, Index: -1, Body: body})
		}
		for _, index := range []int{-1, -2147483648, math.MinInt, math.MinInt + 1, 2147483648, 2147483649, 1<<32 - 1, 1 << 32, 1<<32 + 1, math.MaxInt} {
			list = append(list, api.Frame{Kind: 1, Index: index, Body: body}, api.Frame{Kind: 256, Index: index, Body: body})
		}
	}
	return list
}

// longFrames are ErrLong.
func longFrames() []api.Frame {
	var list []api.Frame
	for _, length := range []int{492, 493, 512, 65535, 65536, 65537, 65536 + 491} {
		list = append(list, api.Frame{Kind: 1, Body: repeated('x', length)}, api.Frame{Kind: 255, Index: 2147483647, Body: repeated(0, length)})
	}
	return list
}

// wrongMarks are none.
func wrongMarks() []int {
	return []int{math.MinInt, -256, -255, -2, -1, 256, 257, 512, 1 << 32, 1<<32 + 7, math.MaxInt}
}

// F1

func TestSeal(t *testing.T) {
	for _, f := range rightFrames() {
		for _, mark := range []int{0, 1, 7, 127, 128, 254, 255} {
			checkSeal(t, f, mark)
		}
	}
	for mark := range 256 {
		checkSeal(t, api.Frame{Kind: 9, Number: 1, Index: 2, Body: "body"}, mark)
	}
	for length := range 492 {
		checkSeal(t, api.Frame{Kind: 3, Number: 5, Index: 6, Body: repeated('x', length)}, 200)
	}
	for kind := 1; kind <= 255; kind++ {
		checkSeal(t, api.Frame{Kind: kind, Body: "x"}, kind)
	}
	r := rand.New(rand.NewSource(1))
	for range 5000 {
		checkSeal(t, drawnFrame(r), r.Intn(256))
	}
}

func TestSealRefused(t *testing.T) {
	for _, f := range wrongFrames() {
		for _, mark := range append(wrongMarks(), 0, 1, 255) {
			checkNoSeal(t, f, mark, api.ErrArg)
		}
	}
	for _, f := range append(rightFrames(), longFrames()...) {
		for _, mark := range wrongMarks() {
			checkNoSeal(t, f, mark, api.ErrArg)
		}
	}
	for _, f := range longFrames() {
		for _, mark := range []int{0, 1, 128, 255} {
			checkNoSeal(t, f, mark, api.ErrLong)
		}
	}
}

// F2

func TestOpen(t *testing.T) {
	for _, f := range rightFrames() {
		for _, mark := range []int{0, 1, 7, 127, 128, 254, 255} {
			checkOpen(t, rawOf(f, mark).bytes(), answer{f: f, mark: mark})
		}
	}
	for length := range 492 {
		f := api.Frame{Kind: 3, Number: 5, Index: 6, Body: repeated('x', length)}
		checkOpen(t, rawOf(f, 200).bytes(), answer{f: f, mark: 200})
	}
}

func TestOpenSize(t *testing.T) {
	whole := rawOf(api.Frame{Kind: 1, Body: "ab"}, 7).bytes()
	for _, s := range []string{"", "x", whole[:1], whole[:256], whole[:511], whole[1:], whole + "\x07", "\x07" + whole, whole + whole, strings.Repeat(whole, 100)} {
		checkOpen(t, s, answer{e: api.ErrSize})
	}
	for _, length := range []int{0, 1, 2, 16, 506, 507, 511, 513, 514, 1024, 65536} {
		checkOpen(t, repeated(0, length), answer{e: api.ErrSize})
		checkOpen(t, "a"+repeated('b', length+length%2), answer{e: api.ErrSize})
	}
}

func TestOpenTorn(t *testing.T) {
	r := rawOf(api.Frame{Kind: 1, Number: 2, Index: 3, Body: "ab"}, 0)
	for first := range 256 {
		for last := range 256 {
			r.mark, r.last = byte(first), byte(last)
			want := answer{e: api.ErrTorn}
			if first == last {
				want = answer{f: api.Frame{Kind: 1, Number: 2, Index: 3, Body: "ab"}, mark: first}
			}
			checkOpen(t, r.bytes(), want)
		}
	}
}

func TestOpenSum(t *testing.T) {
	r := rawOf(api.Frame{Kind: 1, Number: 2, Index: 3, Body: "ab"}, 9)
	for bit := range 32 {
		r.turned = 1 << bit
		checkOpen(t, r.bytes(), answer{e: api.ErrSum})
	}
	// A sum whose bytes stand the other way round is another one, and so is none.
	s := []byte(rawOf(api.Frame{Kind: 1, Body: "ab"}, 9).bytes())
	slices.Reverse(s[507:511])
	checkOpen(t, string(s), answer{e: api.ErrSum})
	clear(s[507:511])
	checkOpen(t, string(s), answer{e: api.ErrSum})
}

// formless are bytes with right marks and a right sum that are no frame.
func formless() []raw {
	right := rawOf(api.Frame{Kind: 1, Number: 2, Index: 3, Body: "ab"}, 9)
	var list []raw
	add := func(change func(*raw)) {
		r := right
		change(&r)
		list = append(list, r)
	}
	add(func(r *raw) { r.kind = 0 })
	add(func(r *raw) { r.kind, r.index, r.length, r.body = 0, 0, 0, "" })
	for _, index := range []uint32{1 << 31, 1<<31 + 1, 1<<31 + 3, 3 << 30, math.MaxUint32} {
		add(func(r *raw) { r.index = index })
	}
	for _, length := range []uint16{492, 493, 507, 511, 512, 513, 514, 1 << 15, 65534, 65535} {
		add(func(r *raw) { r.length = length })
		add(func(r *raw) { r.length, r.body = length, repeated('x', 491) })
		add(func(r *raw) { r.length, r.body = length, "" })
	}
	for _, length := range []int{0, 1, 2, 255, 256, 489, 490} {
		for at := length; at < 491; at++ {
			add(func(r *raw) {
				r.length = uint16(length)
				r.body = repeated('x', length) + repeated(0, at-length) + "\x01"
			})
		}
		add(func(r *raw) { r.length, r.body = uint16(length), repeated(255, 491) })
	}
	return list
}

func TestOpenFrame(t *testing.T) {
	for _, r := range formless() {
		checkOpen(t, r.bytes(), answer{e: api.ErrFrame})
	}
}

// TestOpenFirst: of several faults the first one is told.
func TestOpenFirst(t *testing.T) {
	for _, r := range formless() {
		r.turned = 1 << 7
		checkOpen(t, r.bytes(), answer{e: api.ErrSum})
		r.last++
		checkOpen(t, r.bytes(), answer{e: api.ErrTorn})
		checkOpen(t, r.bytes()+"x", answer{e: api.ErrSize})
		checkOpen(t, r.bytes()[:511], answer{e: api.ErrSize})
		r.turned = 0
		checkOpen(t, r.bytes(), answer{e: api.ErrTorn})
		checkOpen(t, r.bytes()[1:], answer{e: api.ErrSize})
	}
}

// TestOpenAny: bytes that are drawn, or nearly a frame's.
func TestOpenAny(t *testing.T) {
	r := rand.New(rand.NewSource(2))
	for range 5000 {
		s := drawn(r, pick(r, 511, 512, 512, 512, 513, r.Intn(2000)))
		checkOpen(t, s, read(s))
	}
	for range 20000 {
		w := rawOf(drawnFrame(r), r.Intn(256))
		switch r.Intn(8) {
		case 0:
			w.kind = 0
		case 1:
			w.index |= 1 << 31
		case 2:
			w.length = uint16(r.Intn(600))
		case 3:
			w.body += repeated(0, r.Intn(500)) + "x"
		case 4:
			w.turned = r.Uint32()
		case 5:
			w.last = byte(r.Intn(256))
		}
		checkOpen(t, w.bytes(), read(w.bytes()))
	}
}

// TestExamples: those of the chapter, in their order.
func TestExamples(t *testing.T) {
	first := api.Frame{Kind: 1, Number: 2, Index: 3, Body: "ab"}
	s := checkSeal(t, first, 7)
	checkBytes(t, s[:507], "\x07\x01"+repeated(0, 7)+"\x02"+"\x00\x00\x00\x03"+"\x00\x02"+"ab"+repeated(0, 489))
	checkBytes(t, s[511:], "\x07")
	checkNoSeal(t, api.Frame{Kind: 0}, 0, api.ErrArg)
	checkNoSeal(t, api.Frame{Kind: 256}, 0, api.ErrArg)
	checkNoSeal(t, api.Frame{Kind: 1}, 256, api.ErrArg)
	checkNoSeal(t, api.Frame{Kind: 1, Body: repeated('x', 492)}, 0, api.ErrLong)

	checkOpen(t, repeated(0, size), answer{e: api.ErrSum})
	checkOpen(t, "x", answer{e: api.ErrSize})
	checkOpen(t, s[:511]+"\x08", answer{e: api.ErrTorn})

	f, g := api.Frame{Kind: 1, Body: "f"}, api.Frame{Kind: 2, Number: 9, Body: "g"}
	d := loaded(t, repeated(0, size))
	checkPut(t, d, 0, f, api.OK)
	checkSector(t, d, 0, rawOf(f, 1).bytes())
	checkPut(t, d, 0, g, api.OK)
	checkSector(t, d, 0, rawOf(g, 2).bytes())
	d.Crash(api.Fate{Kind: api.Kept}, api.Fate{Kind: api.Torn, At: 100})
	checkNoGet(t, d, 0, api.ErrTorn)
	checkPut(t, d, 0, g, api.OK)
	checkSector(t, d, 0, rawOf(g, 2).bytes())
	checkGet(t, d, 0, g)
}
