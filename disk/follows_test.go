package disk_test

import (
	"math"
	"math/rand"
	"slices"
	"strings"
	"testing"

	"turnout/api"
	"turnout/disk"
)

// A model is a disk in the chapter's words, of bytes and lists alone.
type model struct {
	safe    []byte
	pending []write
	off     bool
	planned bool
	left    int // steps up to the cut, where one is planned
	stats   api.Stats
}

type write struct {
	n int
	s string
}

func (m *model) has(n int) bool { return n >= 0 && n < len(m.safe)/size }

func (m *model) reads(n int) string {
	for _, w := range slices.Backward(m.pending) {
		if w.n == n {
			return w.s
		}
	}
	return string(m.safe[n*size : (n+1)*size])
}

func (m *model) read(n int) (string, api.Errno) {
	if m.off {
		return "", api.ErrPower
	}
	if !m.has(n) {
		return "", api.ErrSector
	}
	m.stats.Reads++
	return m.reads(n), api.OK
}

// goes tells whether the power goes at this step.
func (m *model) goes() bool {
	if !m.planned {
		return false
	}
	m.left--
	if m.left > 0 {
		return false
	}
	m.off, m.planned = true, false
	return true
}

func (m *model) write(n int, s string) api.Errno {
	if m.off {
		return api.ErrPower
	}
	if !m.has(n) {
		return api.ErrSector
	}
	if len(s) != size {
		return api.ErrSize
	}
	if m.goes() {
		return api.ErrPower
	}
	m.pending = append(m.pending, write{n, s})
	m.stats.Writes++
	return api.OK
}

func (m *model) flush() api.Errno {
	if m.off || m.goes() {
		return api.ErrPower
	}
	for _, w := range m.pending {
		copy(m.safe[w.n*size:], w.s)
	}
	m.pending = nil
	m.stats.Flushes++
	return api.OK
}

func (m *model) cut(steps int) {
	if !m.off {
		m.planned, m.left = steps >= 1, steps
	}
}

func (m *model) crash(fates []api.Fate) {
	for i, w := range m.pending {
		if i >= len(fates) {
			break
		}
		f := fates[i]
		if f.Kind == api.Kept {
			copy(m.safe[w.n*size:], w.s)
		}
		for place := range size {
			if f.Kind == api.Torn && place < f.At {
				m.safe[w.n*size+place] = w.s[place]
			}
		}
	}
	m.pending, m.off, m.planned = nil, false, false
}

func (m *model) look() look {
	l := look{size: len(m.safe) / size, off: m.off, image: string(m.safe), stats: m.stats}
	for _, w := range m.pending {
		l.pending = append(l.pending, w.n)
	}
	return l
}

// drawn is bytes of a draw.
func drawn(r *rand.Rand, n int) string {
	b := make([]byte, n)
	r.Read(b)
	return string(b)
}

func pick[T any](r *rand.Rand, list ...T) T { return list[r.Intn(len(list))] }

func drawnFates(r *rand.Rand) []api.Fate {
	var list []api.Fate
	for range r.Intn(8) {
		list = append(list, api.Fate{Kind: pick(r, api.Lost, api.Kept, api.Torn, api.Torn, 3, -1), At: pick(r, -1, 0, 1, r.Intn(size), 511, 512, 513, math.MinInt, math.MaxInt)})
	}
	return list
}

// doOne does one drawn thing at a disk and at its model, and holds the answers against each other.
func doOne(t *testing.T, r *rand.Rand, d *disk.Disk, m *model) {
	t.Helper()
	sectors := len(m.safe) / size
	n := r.Intn(sectors)
	if r.Intn(10) == 0 {
		n = pick(r, noSectors(sectors)...)
	}
	switch r.Intn(20) {
	case 0, 1, 2, 3, 4, 5, 6, 7:
		s := drawn(r, size)
		if r.Intn(10) == 0 {
			s = pick(r, wrongTexts()...)
		}
		checkWrite(t, d, n, s, m.write(n, s))
	case 8, 9, 10, 11, 12:
		want, e := m.read(n)
		if e != api.OK {
			checkNoRead(t, d, n, e)
		} else {
			checkRead(t, d, n, want)
		}
	case 13, 14, 15:
		checkFlush(t, d, m.flush())
	case 16, 17:
		steps := pick(r, math.MinInt, -1, 0, 1, 2, 3, 4, 5, 8, 20, math.MaxInt)
		d.Cut(steps)
		m.cut(steps)
	default:
		fates := drawnFates(r)
		d.Crash(fates...)
		m.crash(fates)
	}
}

// TestScripts: D1 to D6 together, at scripts that are drawn.
func TestScripts(t *testing.T) {
	r := rand.New(rand.NewSource(4))
	for range 300 {
		image := drawn(r, size*(1+r.Intn(4)))
		d, m := loaded(t, image), &model{safe: []byte(image)}
		for range 200 {
			doOne(t, r, d, m)
			checkLook(t, d, m.look())
		}
	}
}

// D7

// twins are two disks and their model behind one script.
func twins(t *testing.T, r *rand.Rand) (*disk.Disk, *disk.Disk, *model) {
	t.Helper()
	image := drawn(r, size*(1+r.Intn(4)))
	seed := r.Int63()
	length := r.Intn(60)
	var made [2]*disk.Disk
	var m *model
	for i := range made {
		made[i] = loaded(t, image)
		m = &model{safe: []byte(image)}
		script := rand.New(rand.NewSource(seed))
		for range length {
			doOne(t, script, made[i], m)
		}
	}
	return made[0], made[1], m
}

// readAll is what all sectors read as, the power being on.
func readAll(t *testing.T, d *disk.Disk) string {
	t.Helper()
	var all strings.Builder
	for n := range d.Size() {
		s, e := d.Read(n)
		if e != api.OK {
			t.Fatalf("Read(%d): %d", n, e)
		}
		all.WriteString(s)
	}
	return all.String()
}

func TestFlushIsWhatIsRead(t *testing.T) {
	r := rand.New(rand.NewSource(7))
	for range 500 {
		d, other, m := twins(t, r)
		if m.off {
			continue
		}
		d.Cut(0)
		want := readAll(t, d)
		checkFlush(t, d, api.OK)
		checkBytes(t, "the image behind a Flush", d.Image(), want)
		checkBytes(t, "what is read behind a Flush", readAll(t, d), want)
		other.Crash(slices.Repeat([]api.Fate{{Kind: api.Kept}}, len(m.pending)+r.Intn(2))...)
		checkBytes(t, "the image behind a Crash that keeps all", other.Image(), want)
		checkBytes(t, "what is read behind it", readAll(t, other), want)
	}
}

func TestCrashWithoutFates(t *testing.T) {
	r := rand.New(rand.NewSource(8))
	for range 500 {
		d, _, _ := twins(t, r)
		want := d.Image()
		copied := loaded(t, want)
		checkBytes(t, "what is read of Load of Image", readAll(t, copied), want)
		d.Crash()
		checkBytes(t, "the image behind a Crash without fates", d.Image(), want)
		checkBytes(t, "what is read behind it", readAll(t, d), want)
	}
}

// TestRefusedChangesNothing: calls that are refused, of one of two disks, which behave as one.
func TestRefusedChangesNothing(t *testing.T) {
	r := rand.New(rand.NewSource(9))
	for range 300 {
		d, other, m := twins(t, r)
		for range 20 {
			n := pick(r, noSectors(d.Size())...)
			d.Read(n)
			d.Write(n, drawn(r, size))
			d.Write(0, pick(r, wrongTexts()...))
			if m.off {
				d.Read(0)
				d.Flush()
				d.Write(0, drawn(r, size))
			}
			checkLook(t, d, lookAt(other))
		}
		seed := r.Int63()
		a, b := rand.New(rand.NewSource(seed)), rand.New(rand.NewSource(seed))
		behind := &model{safe: slices.Clone(m.safe), pending: slices.Clone(m.pending), off: m.off, planned: m.planned, left: m.left, stats: m.stats}
		for range 40 {
			doOne(t, a, d, m)
			doOne(t, b, other, behind)
			checkLook(t, d, lookAt(other))
		}
	}
}
