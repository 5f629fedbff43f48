package exact_test

import (
	"math"
	"math/rand"
	"runtime"
	"slices"
	"strconv"
	"strings"
	"sync"
	"testing"
	"unsafe"
	"weak"

	"turnout/api"
	"turnout/exact"
)

// P12.2: a thing is kept as Go's assignment copies it

func TestThingsAsAssigned(t *testing.T) {
	type pair struct {
		a [2]int
		l []int
	}
	m := fresh[pair](t, 2)
	x := pair{[2]int{1, 2}, []int{3, 4}}
	checkPut(t, m, "x", x, api.OK)
	x.a[0], x.l[0] = 9, 9
	got, _ := m.Get("x")
	if got.a != [2]int{1, 2} || !slices.Equal(got.l, []int{9, 4}) {
		t.Errorf("an array is copied, a list's elements are shared: %v", got)
	}
	got.a[1], got.l[1] = 8, 8
	got.l = nil
	again, _ := m.Get("x")
	if again.a != [2]int{1, 2} || !slices.Equal(again.l, []int{9, 8}) {
		t.Errorf("what was got is a copy: %v", again)
	}
	for _, v := range m.All() {
		v.a[0], v.l = 7, nil
	}
	c := m.Copy()
	x.l[0] = 5
	for _, m := range []*exact.Map[pair]{m, c} {
		if v, _ := m.Get("x"); v.a != [2]int{1, 2} || !slices.Equal(v.l, []int{5, 8}) || &v.l[0] != &x.l[0] {
			t.Errorf("behind a range and a copy: %v", v)
		}
	}
	y := pair{l: []int{1, 2, 3}[:1]}
	checkSet(t, m, "x", y, api.OK)
	if v, there := m.Drop("x"); !there || len(v.l) != 1 || cap(v.l) != 3 || &v.l[0] != &y.l[0] {
		t.Errorf("a list with its spare room: %v %d", v, cap(v.l))
	}
}

// TestThingsOfAnyType: things are never held against each other.
func TestThingsOfAnyType(t *testing.T) {
	nan := fresh[float64](t, 1)
	checkPut(t, nan, "a", math.NaN(), api.OK)
	if v, there := nan.Get("a"); !there || !math.IsNaN(v) {
		t.Errorf("%v %v", v, there)
	}
	if v, there := nan.Drop("a"); !there || !math.IsNaN(v) {
		t.Errorf("%v %v", v, there)
	}

	fs := fresh[func() int](t, 2)
	for i := range 2 {
		if e := fs.Put(strconv.Itoa(i), func() int { return i }); e != api.OK {
			t.Error(e)
		}
	}
	for i := range 2 {
		if f, there := fs.Get(strconv.Itoa(i)); !there || f() != i {
			t.Errorf("function %d", i)
		}
	}
	if f, there := fs.Get("2"); there || f != nil {
		t.Error("a function that is not there")
	}

	things := fresh[any](t, 3)
	checkPut[any](t, things, "list", []int{1}, api.OK)
	checkPut[any](t, things, "map", map[string]int{"a": 1}, api.OK)
	checkPut[any](t, things, "nil", nil, api.OK)
	checkSet[any](t, things, "list", []int{2}, api.OK)
	if v, there := things.Get("list"); !there || v.([]int)[0] != 2 {
		t.Errorf("%v %v", v, there)
	}
	if v, there := things.Get("nil"); !there || v != nil {
		t.Errorf("%v %v", v, there)
	}

	none := fresh[struct{}](t, 2)
	checkPut(t, none, "b", struct{}{}, api.OK)
	checkPut(t, none, "a", struct{}{}, api.OK)
	checkPut(t, none, "c", struct{}{}, api.ErrFull)
	checkDrop(t, none, "b", struct{}{}, true)
	checkDrop(t, none, "b", struct{}{}, false)
	checkGet(t, none, "a", struct{}{}, true)

	great := fresh[[1 << 16]byte](t, 40)
	for i := range 40 {
		var v [1 << 16]byte
		v[0], v[1<<16-1] = byte(i), byte(i+1)
		if e := great.Put(strconv.Itoa(i), v); e != api.OK {
			t.Error(e)
		}
	}
	for i := range 40 {
		if v, there := great.Get(strconv.Itoa(i)); !there || v[0] != byte(i) || v[1<<16-1] != byte(i+1) {
			t.Errorf("the great one %d", i)
		}
	}

	maps := fresh[*exact.Map[int]](t, 1)
	inner := filled(t, 1, "a")
	checkPut(t, maps, "m", inner, api.OK)
	checkGet(t, maps, "m", inner, true)
}

// R3

// mutable is a text over bytes that can be changed behind its back.
func mutable(s string) (string, []byte) {
	b := []byte(s)
	return unsafe.String(&b[0], len(b)), b
}

// TestKeysAreNotKept: neither the text of a Put nor that of another call.
func TestKeysAreNotKept(t *testing.T) {
	m := fresh[int](t, 3)
	key, under := mutable("abc")
	checkPut(t, m, key, 1, api.OK)
	copy(under, "xyz")
	checkGet(t, m, "abc", 1, true)
	checkGet(t, m, "xyz", 0, false)
	checkAll(t, m, held{"abc", 1})

	copy(under, "abc")
	checkSet(t, m, key, 2, api.OK)
	copy(under, "zzz")
	checkAll(t, m, held{"abc", 2})
	checkAll(t, m.Copy(), held{"abc", 2})
}

// TestToldKeysAreTheirOwners: no text that is told shares memory with one that was handed in, or with another one that is told.
func TestToldKeysAreTheirOwners(t *testing.T) {
	m := fresh[int](t, 3)
	keys := []string{strings.Repeat("a", 5), strings.Repeat("b", 6), strings.Repeat("c", 7)}
	met := map[*byte]string{}
	for i, key := range keys {
		checkPut(t, m, key, i, api.OK)
		met[unsafe.StringData(key)] = "handed in"
	}
	c := m.Copy()
	var told []string // kept, so that no memory is used again
	for round, m := range []*exact.Map[int]{m, m, c, c} {
		for key := range m.All() {
			if was := met[unsafe.StringData(key)]; was != "" {
				t.Errorf("round %d: %q shares memory: %s", round, key, was)
			}
			met[unsafe.StringData(key)] = "told"
			told = append(told, key)
		}
	}
	// Whoever changes what was told changes nothing else.
	for _, key := range told {
		b := unsafe.Slice(unsafe.StringData(key), len(key))
		clear(b)
	}
	for _, m := range []*exact.Map[int]{m, c} {
		checkAll(t, m, held{keys[0], 0}, held{keys[1], 1}, held{keys[2], 2})
	}
}

// TestNothingStays: what was taken out, or set over, is kept nowhere.
func TestNothingStays(t *testing.T) {
	for _, keys := range [][]string{{"a", "b", "c", "d", "e"}, homes(7, 7, 7, 7, 7), homes(8191, 8191, 8190, 0, 1)} {
		for what, takeOut := range map[string]func(m *exact.Map[*[100]int]){
			"Drop": func(m *exact.Map[*[100]int]) {
				for _, key := range keys {
					m.Drop(key)
				}
			},
			"Drop backwards": func(m *exact.Map[*[100]int]) {
				for _, key := range slices.Backward(keys) {
					m.Drop(key)
				}
			},
			"Set": func(m *exact.Map[*[100]int]) {
				for _, key := range keys {
					m.Set(key, nil)
				}
			},
			"Clear": func(m *exact.Map[*[100]int]) { m.Clear() },
			"a range": func(m *exact.Map[*[100]int]) {
				for key := range m.All() {
					m.Drop(key)
				}
			},
		} {
			m := fresh[*[100]int](t, 10)
			var things []weak.Pointer[[100]int]
			for _, key := range keys {
				thing := new([100]int)
				things = append(things, weak.Make(thing))
				checkPut(t, m, key, thing, api.OK)
			}
			thing := new([100]int)
			things = append(things, weak.Make(thing))
			checkPut(t, m, keys[0], thing, api.ErrDup)
			checkSet(t, m, "none", thing, api.ErrAbsent)
			takeOut(m)
			runtime.GC()
			for i, thing := range things {
				if thing.Value() != nil {
					t.Errorf("%q, %s: thing %d is kept", keys, what, i)
				}
			}
			runtime.KeepAlive(m)
		}
	}
}

// TestTheLastOneGoesAlone: of five that are in each other's way each is let go when it is dropped, and no other one.
func TestTheLastOneGoesAlone(t *testing.T) {
	keys := homes(8191, 8191, 8191, 0, 0)
	for _, order := range orders(len(keys)) {
		m := fresh[*[100]int](t, 10)
		things := make([]weak.Pointer[[100]int], len(keys))
		for i, key := range keys {
			thing := new([100]int)
			things[i] = weak.Make(thing)
			checkPut(t, m, key, thing, api.OK)
		}
		gone := map[int]int{}
		for _, i := range order[:3] {
			m.Drop(keys[i])
			gone[i] = 1
		}
		runtime.GC()
		for i, thing := range things {
			if (thing.Value() == nil) != (gone[i] == 1) {
				t.Errorf("order %v: thing %d is %v", order, i, thing.Value())
			}
		}
		runtime.KeepAlive(m)
	}
}

// R4

// TestByWhateverWay: maps that hold the same tell the same, whatever was there before.
func TestByWhateverWay(t *testing.T) {
	r := rand.New(rand.NewSource(14))
	for range 300 {
		keys := drawTexts(r, 1+r.Intn(30))
		kept := r.Intn(len(keys) + 1)
		straight := filled(t, 100, keys[:kept]...)
		round := fresh[int](t, 100)
		for _, i := range r.Perm(len(keys)) {
			checkPut(t, round, keys[i], -1, api.OK)
		}
		for _, i := range r.Perm(len(keys)) {
			if i < kept {
				checkSet(t, round, keys[i], i, api.OK)
			} else {
				checkDrop(t, round, keys[i], -1, true)
			}
		}
		checkLen(t, round, straight.Len())
		checkAll(t, round, collected(straight.All())...)
	}
}

// TestTwoMaps: two maps have nothing to do with one another.
func TestTwoMaps(t *testing.T) {
	a, b := fresh[int](t, 1), fresh[int](t, 2)
	checkPut(t, a, "x", 1, api.OK)
	checkGet(t, b, "x", 0, false)
	checkPut(t, b, "x", 2, api.OK)
	checkPut(t, b, "y", 3, api.OK)
	checkPut(t, a, "y", 3, api.ErrFull)
	a.Clear()
	checkAll(t, a)
	checkAll(t, b, held{"x", 2}, held{"y", 3})
}

// P12.6, R7

// TestSideBySide: calls that only ask, by many goroutines.
func TestSideBySide(t *testing.T) {
	m := fresh[int](t, 500)
	var want []held
	for i := range 300 {
		key := "k" + strconv.Itoa(1000+i)
		want = append(want, held{key, i})
		checkPut(t, m, key, i, api.OK)
	}
	all := m.All()
	var group sync.WaitGroup
	for n := range 16 {
		group.Go(func() {
			for range 10 {
				for i, h := range want {
					checkGet(t, m, h.key, i, true)
					checkGet(t, m, h.key+"x", 0, false)
				}
				checkLen(t, m, len(want))
				checkTold(t, all, want...)
				checkAll(t, m, want...)
				c := m.Copy()
				checkPut(t, c, "own", n, api.OK)
				checkDrop(t, c, want[n].key, n, true)
				c.Clear()
				checkLen(t, c, 0)
			}
		})
	}
	group.Wait()
	checkAll(t, m, want...)
}
