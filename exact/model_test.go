package exact_test

import (
	"maps"
	"math/rand"
	"slices"
	"strconv"
	"testing"

	"turnout/api"
	"turnout/exact"
	"turnout/sums"
)

// A model is what a map is: things under texts, at most so many.
type model struct {
	most int
	held map[string]int
}

func newModel(most int) model { return model{most, map[string]int{}} }

func (d model) put(key string, v int) api.Errno {
	if _, there := d.held[key]; there {
		return api.ErrDup
	}
	if len(d.held) >= d.most {
		return api.ErrFull
	}
	d.held[key] = v
	return api.OK
}

func (d model) set(key string, v int) api.Errno {
	if _, there := d.held[key]; !there {
		return api.ErrAbsent
	}
	d.held[key] = v
	return api.OK
}

func (d model) drop(key string) (int, bool) {
	v, there := d.held[key]
	delete(d.held, key)
	return v, there
}

func (d model) copied() model { return model{d.most, maps.Clone(d.held)} }

func (d model) all() []held {
	var list []held
	for _, key := range slices.Sorted(maps.Keys(d.held)) {
		list = append(list, held{key, d.held[key]})
	}
	return list
}

// check holds what a map tells against the model: what there is, and what is under these texts.
func (d model) check(t *testing.T, m *exact.Map[int], keys []string) {
	t.Helper()
	checkLen(t, m, len(d.held))
	checkAll(t, m, d.all()...)
	for _, key := range keys {
		v, there := d.held[key]
		checkGet(t, m, key, v, there)
	}
}

// The operations of a script.
const (
	opPut = iota
	opSet
	opDrop
	opClear
)

// do does an operation to both, and holds what they answer against each other.
func (d model) do(t *testing.T, m *exact.Map[int], op int, key string, v int) {
	t.Helper()
	switch op {
	case opPut:
		checkPut(t, m, key, v, d.put(key, v))
	case opSet:
		checkSet(t, m, key, v, d.set(key, v))
	case opDrop:
		was, there := d.drop(key)
		checkDrop(t, m, key, was, there)
	case opClear:
		m.Clear()
		clear(d.held)
	}
}

// homes are texts whose Spread has these numbers as its lowest 13 bits, one each: unlike texts, also for the same number.
func homes(numbers ...uint32) []string {
	list := make([]string, len(numbers))
	met := map[string]int{}
	for i, n := range numbers {
		for k := 0; ; k++ {
			key := "k" + strconv.Itoa(k)
			if sums.Spread(0, key)%8192 == n && met[key] == 0 {
				list[i], met[key] = key, 1
				break
			}
		}
	}
	return list
}

// twins are pairs of texts, the two of each with the same Spread.
func twins(pairs int) [][2]string {
	var list [][2]string
	met := map[uint32]string{}
	for k := 0; len(list) < pairs; k++ {
		key := strconv.Itoa(k)
		n := sums.Spread(0, key)
		if other, ok := met[n]; ok {
			list = append(list, [2]string{other, key})
		}
		met[n] = key
	}
	return list
}

// orders are all orders of the numbers below n.
func orders(n int) [][]int {
	if n == 0 {
		return [][]int{nil}
	}
	var list [][]int
	for _, o := range orders(n - 1) {
		for at := range n {
			list = append(list, slices.Insert(slices.Clone(o), at, n-1))
		}
	}
	return list
}

// crowds are texts that are looked for at the same places, or side by side, also where the places come round.
func crowds() map[string][]string {
	return map[string][]string{
		"one place":            homes(5, 5, 5, 5, 5),
		"the last one":         homes(8191, 8191, 8191, 8191, 8191),
		"the first one":        homes(0, 0, 0, 0, 0),
		"round the end":        homes(8190, 8191, 8191, 0, 1),
		"round it, two by two": homes(8190, 8190, 8191, 8191, 0),
		"two runs":             homes(8189, 8189, 8191, 8191, 8191),
		"one behind another":   homes(3, 4, 5, 6, 7),
		"back and forth":       homes(7, 6, 7, 6, 8),
		"the same number":      {twins(2)[0][0], twins(2)[0][1], twins(2)[1][0], twins(2)[1][1], ""},
	}
}

// TestCrowds: texts that stand in each other's way are found and taken out, in whatever order they came and go.
func TestCrowds(t *testing.T) {
	for what, keys := range crowds() {
		for _, in := range orders(len(keys)) {
			for _, out := range orders(len(keys)) {
				m, d := fresh[int](t, len(keys)), newModel(len(keys))
				for _, i := range in {
					d.do(t, m, opPut, keys[i], i)
				}
				for _, i := range out {
					d.do(t, m, opDrop, keys[i], 0)
					for _, key := range keys {
						v, there := d.held[key]
						checkGet(t, m, key, v, there)
					}
				}
				if t.Failed() {
					t.Fatalf("%s: %q came as %v and went as %v", what, keys, in, out)
				}
			}
		}
	}
}

// TestAllScripts: every script of five operations over three texts, in maps of 1 to 3.
func TestAllScripts(t *testing.T) {
	keys := homes(8191, 8191, 0)
	var goOn func(m *exact.Map[int], d model, left int)
	goOn = func(m *exact.Map[int], d model, left int) {
		d.check(t, m, keys)
		if left == 0 || t.Failed() {
			return
		}
		for op := opPut; op <= opClear; op++ {
			for i, key := range keys {
				if op == opClear && i > 0 {
					break
				}
				m, d := m.Copy(), d.copied()
				d.do(t, m, op, key, 10*left+i)
				goOn(m, d, left-1)
			}
		}
	}
	for most := 1; most <= 3; most++ {
		goOn(fresh[int](t, most), newModel(most), 5)
	}
}

// TestTwins: texts with the same Spread are two.
func TestTwins(t *testing.T) {
	m := fresh[int](t, api.MaxCapacity)
	pairs := twins(50)
	for i, p := range pairs {
		checkPut(t, m, p[0], i, api.OK)
		checkGet(t, m, p[1], 0, false)
		checkSet(t, m, p[1], 0, api.ErrAbsent)
		checkDrop(t, m, p[1], 0, false)
		checkPut(t, m, p[1], -i, api.OK)
	}
	for i, p := range pairs {
		checkDrop(t, m, p[0], i, true)
		checkGet(t, m, p[0], 0, false)
		checkGet(t, m, p[1], -i, true)
	}
	checkLen(t, m, len(pairs))
}

// drawText draws a text: short ones, long ones, and such as begin alike.
func drawText(r *rand.Rand) string {
	b := make([]byte, r.Intn(1+r.Intn(20)))
	for i := range b {
		b[i] = []byte{0, 1, 'a', 'b', 0x7f, 0x80, 0xff}[r.Intn(7)]
	}
	return string(b)
}

// drawTexts draws unlike texts.
func drawTexts(r *rand.Rand, n int) []string {
	met := map[string]int{}
	for len(met) < n {
		met[drawText(r)] = 1
	}
	list := slices.Sorted(maps.Keys(met))
	r.Shuffle(n, func(i, j int) { list[i], list[j] = list[j], list[i] })
	return list
}

// TestDrawnScripts: maps of all sizes, over more texts than they may hold, or fewer; they fill and empty by turns.
func TestDrawnScripts(t *testing.T) {
	r := rand.New(rand.NewSource(12))
	for _, most := range []int{1, 2, 3, 4, 5, 7, 8, 9, 15, 16, 17, 33, 64, 100, 500, 1023, 1024, 1025, 4095, 4096} {
		for _, texts := range []int{most/2 + 1, most, most + 1, 2 * most} {
			keys := drawTexts(r, texts)
			m, d := fresh[int](t, most), newModel(most)
			for step := range 6*texts + 200 {
				op := []int{opPut, opPut, opPut, opSet, opDrop}[r.Intn(5)]
				if step/(2*texts)%2 == 1 {
					op = []int{opPut, opSet, opDrop, opDrop, opDrop}[r.Intn(5)]
				}
				if r.Intn(5*texts) == 0 {
					op = opClear
				}
				key := keys[r.Intn(texts)]
				d.do(t, m, op, key, step+1)
				v, there := d.held[key]
				checkGet(t, m, key, v, there)
				checkLen(t, m, len(d.held))
				if r.Intn(texts) < 3 {
					d.check(t, m, keys)
				}
				if t.Failed() {
					t.Fatalf("most %d, %d texts, step %d", most, texts, step)
				}
			}
			d.check(t, m, keys)
		}
	}
}

// TestCrowdedScripts: drawn scripts over texts of a few homes alone.
func TestCrowdedScripts(t *testing.T) {
	r := rand.New(rand.NewSource(13))
	for round := range 80 {
		numbers := make([]uint32, 2+r.Intn(14))
		for i := range numbers {
			numbers[i] = uint32(8192-3+r.Intn(6)) % 8192
		}
		keys := homes(numbers...)
		most := 1 + r.Intn(len(keys)+2)
		m, d := fresh[int](t, most), newModel(most)
		for step := range 300 {
			d.do(t, m, []int{opPut, opPut, opSet, opDrop, opDrop}[r.Intn(5)], keys[r.Intn(len(keys))], step+1)
			d.check(t, m, keys)
			if t.Failed() {
				t.Fatalf("round %d, step %d, most %d, homes %v", round, step, most, numbers)
			}
		}
	}
}

// TestChurn: a full map of which one is dropped and another one put in, again and again, forgets none and gets no slower.
func TestChurn(t *testing.T) {
	for _, most := range []int{1, 2, 4, 5, 64, api.MaxCapacity} {
		m := fresh[int](t, most)
		for i := range most {
			checkPut(t, m, strconv.Itoa(i), i, api.OK)
		}
		for i := most; i < most+100000; i++ {
			key := strconv.Itoa(i)
			if e := m.Put(key, i); e != api.ErrFull {
				t.Fatalf("most %d: Put of %d into a full map: %d", most, i, e)
			}
			if v, there := m.Drop(strconv.Itoa(i - most)); v != i-most || !there {
				t.Fatalf("most %d: Drop of %d: %d %v", most, i-most, v, there)
			}
			if e := m.Put(key, i); e != api.OK {
				t.Fatalf("most %d: Put of %d: %d", most, i, e)
			}
			if v, there := m.Get(strconv.Itoa(i - most/2)); v != i-most/2 || !there {
				t.Fatalf("most %d: Get of %d: %d %v", most, i-most/2, v, there)
			}
		}
		checkLen(t, m, most)
	}
}
