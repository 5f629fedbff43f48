package trie_test

import (
	"math"
	"math/rand"
	"runtime"
	"slices"
	"strconv"
	"strings"
	"sync"
	"testing"
	"weak"

	"turnout/api"
	"turnout/trie"
)

// R1

// TestNil: a nil trie answers zero values and does nothing, with an error: ErrArg.
func TestNil(t *testing.T) {
	var x *trie.Trie[int]
	for _, p := range append(noPrefixes(8), trie.Prefix{}, of("1", 8)) {
		checkPut(t, x, p, 1, api.ErrArg)
		checkSet(t, x, p, 1, api.ErrArg)
		checkDrop(t, x, p, 0, false)
		checkGet(t, x, p, 0, false)
		checkFind(t, x, p.Value, trie.Prefix{}, 0, false)
		checkEvery(t, x, p.Value)
		checkTold(t, x.Under(p))
	}
	checkMany(t, x, 0, 0)
	checkTold(t, x.All())
	x.Clear()
	if x.Copy() != nil {
		t.Error("a copy of nil")
	}
}

// TestTotal: any numbers for the arguments, in all widths.
func TestTotal(t *testing.T) {
	numbers := []uint64{0, 1, 2, 127, 128, 255, 256, 1 << 31, 1 << 32, 1 << 63, math.MaxUint64 - 1, math.MaxUint64}
	lens := []int{math.MinInt, math.MinInt32, -129, -1, 0, 1, 2, 7, 8, 9, 63, 64, 65, 127, 128, 129, 256, math.MaxInt32, 1 << 32, math.MaxInt}
	for _, width := range []int{1, 2, 8, 63, 64, 65, 127, 128} {
		x := fresh[int](t, width, api.MaxCapacity)
		many := 0
		for _, hi := range numbers {
			for _, lo := range numbers {
				a := api.Bits{Hi: hi, Lo: lo}
				for _, n := range lens {
					p := trie.Prefix{Value: a, Len: n}
					x.Get(p)
					x.Set(p, 1)
					x.Drop(p)
					if x.Put(p, 1) == api.OK {
						many++
						written(t, p, width)
					}
					for q := range x.Under(p) {
						written(t, q, width)
					}
				}
				x.Find(a)
				x.Every(a)
			}
		}
		if x.Len() != many || x.Nodes() >= 2*many {
			t.Errorf("width %d: %d, %d, not %d", width, x.Len(), x.Nodes(), many)
		}
	}
}

// R3

// TestEveryIsItsOwners: what Every answers is new memory, spare room too.
func TestEveryIsItsOwners(t *testing.T) {
	x := filled(t, "", "1", "10", "101", "1011")
	a := number("10110000", 8)
	for range 3 {
		one, two := x.Every(a), x.Every(a)
		want := slices.Clone(two)
		one = one[:cap(one)]
		for i := range one {
			one[i] = trie.Prefix{Value: api.Bits{Hi: 9}, Len: -9}
		}
		if !slices.Equal(two, want) {
			t.Error(two)
		}
		checkEvery(t, x, a, "", "1", "10", "101", "1011")
		checkEvery(t, x.Copy(), a, "", "1", "10", "101", "1011")
	}
}

// A thing is kept as it is

func TestThingsAsAssigned(t *testing.T) {
	type pair struct {
		a [2]int
		l []int
	}
	x := fresh[pair](t, 8, 2)
	p := of("101", 8)
	v := pair{[2]int{1, 2}, []int{3, 4}}
	checkPut(t, x, p, v, api.OK)
	v.a[0], v.l[0] = 9, 9
	got, _ := x.Get(p)
	if got.a != [2]int{1, 2} || !slices.Equal(got.l, []int{9, 4}) {
		t.Errorf("an array is copied, a list's elements are shared: %v", got)
	}
	got.a[1], got.l[1] = 8, 8
	got.l = nil
	for _, v := range x.All() {
		v.a[0], v.l = 7, nil
	}
	_, found, _ := x.Find(number("101", 8))
	found.a[0], found.l = 7, nil
	for _, x := range []*trie.Trie[pair]{x, x.Copy()} {
		again, there := x.Get(p)
		if !there || again.a != [2]int{1, 2} || !slices.Equal(again.l, []int{9, 8}) || &again.l[0] != &v.l[0] {
			t.Errorf("what was told is a copy: %v", again)
		}
	}
	w := pair{l: []int{1, 2, 3}[:1]}
	checkSet(t, x, p, w, api.OK)
	if v, there := x.Drop(p); !there || len(v.l) != 1 || cap(v.l) != 3 || &v.l[0] != &w.l[0] {
		t.Errorf("a list with its spare room: %v %d", v, cap(v.l))
	}
}

// TestThingsOfAnyType: things are never held against each other; one that is nil or empty is one all the same.
func TestThingsOfAnyType(t *testing.T) {
	one, two := of("1", 8), of("10", 8)
	nan := fresh[float64](t, 8, 1)
	checkPut(t, nan, one, math.NaN(), api.OK)
	if v, there := nan.Get(one); !there || !math.IsNaN(v) {
		t.Errorf("%v %v", v, there)
	}

	fs := fresh[func() int](t, 8, 2)
	for i, p := range []trie.Prefix{one, two} {
		if e := fs.Put(p, func() int { return i }); e != api.OK {
			t.Error(e)
		}
	}
	if _, f, there := fs.Find(number("10", 8)); !there || f() != 1 {
		t.Error("a function")
	}
	if f, there := fs.Get(of("100", 8)); there || f != nil {
		t.Error("a function that is not there")
	}

	things := fresh[any](t, 8, 3)
	checkPut[any](t, things, one, []int{1}, api.OK)
	checkPut[any](t, things, two, nil, api.OK)
	checkPut[any](t, things, two, map[string]int{}, api.ErrDup)
	checkSet[any](t, things, one, map[string]int{"a": 1}, api.OK)
	if p, v, there := things.Find(number("10", 8)); !there || v != nil || p != two {
		t.Errorf("%v %v", v, there)
	}

	pointers := fresh[*int](t, 8, 3)
	checkPut(t, pointers, two, nil, api.OK)
	checkPut(t, pointers, two, nil, api.ErrDup)
	checkFind(t, pointers, number("10", 8), two, nil, true)
	checkMany(t, pointers, 1, 1)
	checkDrop(t, pointers, two, nil, true)
	checkMany(t, pointers, 0, 0)

	none := fresh[struct{}](t, 8, 2)
	checkPut(t, none, two, struct{}{}, api.OK)
	checkPut(t, none, one, struct{}{}, api.OK)
	checkPut(t, none, of("", 8), struct{}{}, api.ErrFull)
	checkFind(t, none, number("11", 8), one, struct{}{}, true)
	checkDrop(t, none, two, struct{}{}, true)
	checkDrop(t, none, two, struct{}{}, false)

	great := fresh[[1 << 16]byte](t, 128, 129)
	for n := range 129 {
		var v [1 << 16]byte
		v[0], v[1<<16-1] = byte(n), byte(n+1)
		if e := great.Put(of(strings.Repeat("1", n), 128), v); e != api.OK {
			t.Error(e)
		}
	}
	for n := range 129 {
		if v, there := great.Get(of(strings.Repeat("1", n), 128)); !there || v[0] != byte(n) || v[1<<16-1] != byte(n+1) {
			t.Errorf("the great one %d", n)
		}
	}
}

// TestNothingStays: what was taken out, or set over, is kept nowhere.
func TestNothingStays(t *testing.T) {
	list := []string{"", "1", "10", "1011", "1000", "00000000", "00000001"}
	for what, takeOut := range map[string]func(x *trie.Trie[*[100]int]){
		"Drop": func(x *trie.Trie[*[100]int]) {
			for _, bits := range list {
				x.Drop(of(bits, 8))
			}
		},
		"Drop backwards": func(x *trie.Trie[*[100]int]) {
			for _, bits := range slices.Backward(list) {
				x.Drop(of(bits, 8))
			}
		},
		"Set": func(x *trie.Trie[*[100]int]) {
			for _, bits := range list {
				x.Set(of(bits, 8), nil)
			}
		},
		"Clear": func(x *trie.Trie[*[100]int]) { x.Clear() },
		"a range": func(x *trie.Trie[*[100]int]) {
			for p := range x.All() {
				x.Drop(p)
			}
		},
	} {
		x := fresh[*[100]int](t, 8, 10)
		var things []weak.Pointer[[100]int]
		for _, bits := range list {
			thing := new([100]int)
			things = append(things, weak.Make(thing))
			checkPut(t, x, of(bits, 8), thing, api.OK)
		}
		refused := new([100]int)
		things = append(things, weak.Make(refused))
		checkPut(t, x, of("1", 8), refused, api.ErrDup)
		checkSet(t, x, of("11", 8), refused, api.ErrAbsent)
		checkPut(t, x, trie.Prefix{Len: 9}, refused, api.ErrKey)
		takeOut(x)
		runtime.GC()
		for i, thing := range things {
			if thing.Value() != nil {
				t.Errorf("%s: thing %d is kept", what, i)
			}
		}
		runtime.KeepAlive(x)
	}
}

// R4, P13.7

// TestByWhateverWay: all that is told hangs on what is kept, not on the order in which it came, nor on what was kept before.
func TestByWhateverWay(t *testing.T) {
	r := rand.New(rand.NewSource(13))
	for range 300 {
		width := 1 + r.Intn(128)
		list := drawList(r, width, 1+r.Intn(40))
		kept := r.Intn(len(list) + 1)
		straight, round := fresh[int](t, width, 100), fresh[int](t, width, 100)
		for i, bits := range list[:kept] {
			checkPut(t, straight, of(bits, width), i, api.OK)
		}
		for _, i := range r.Perm(len(list)) {
			checkPut(t, round, of(list[i], width), -1, api.OK)
		}
		for _, i := range r.Perm(len(list)) {
			if i < kept {
				checkSet(t, round, of(list[i], width), i, api.OK)
			} else {
				checkDrop(t, round, of(list[i], width), -1, true)
			}
		}
		checkMany(t, round, straight.Len(), straight.Nodes())
		if got, want := collected(t, round.All(), width), collected(t, straight.All(), width); !slices.Equal(got, want) {
			t.Fatalf("%v, not %v", some(got), some(want))
		}
		for range 20 {
			a := number(drawBits(r, list, width), width)
			p, v, there := straight.Find(a)
			checkFind(t, round, a, p, v, there)
			if !slices.Equal(straight.Every(a), round.Every(a)) {
				t.Fatalf("Every(%v)", a)
			}
		}
	}
}

// TestTwoTries: two tries have nothing to do with one another.
func TestTwoTries(t *testing.T) {
	a, b := fresh[int](t, 8, 1), fresh[int](t, 16, 2)
	checkPut(t, a, of("1", 8), 1, api.OK)
	checkGet(t, b, of("1", 16), 0, false)
	checkPut(t, b, of("1", 16), 2, api.OK)
	checkPut(t, b, of("000000001", 16), 3, api.OK)
	checkPut(t, a, of("0", 8), 3, api.ErrFull)
	a.Clear()
	checkMany(t, a, 0, 0)
	checkMany(t, b, 2, 3)
}

// R7

// TestSideBySide: calls that only ask, by many goroutines; and what is done to a copy meanwhile.
func TestSideBySide(t *testing.T) {
	x := fresh[int](t, 16, 500)
	list := drawList(rand.New(rand.NewSource(3)), 16, 300)
	slices.Sort(list)
	var want []told
	for i, bits := range list {
		want = append(want, told{bits, i})
		checkPut(t, x, of(bits, 16), i, api.OK)
	}
	nodes := x.Nodes()
	all := x.All()
	var group sync.WaitGroup
	for n := range 16 {
		group.Go(func() {
			c := x.Copy()
			for i, h := range want {
				p := of(h.bits, 16)
				checkGet(t, x, p, i, true)
				if q, _, there := x.Find(p.Value); !there || q.Len < p.Len && q != p {
					t.Errorf("Find(%v) is %v %v", p.Value, q, there)
				}
				if l := x.Every(p.Value); !slices.Contains(l, p) {
					t.Errorf("Every(%v) is %v", p.Value, l)
				}
				if i%16 == n {
					checkDrop(t, c, p, i, true)
				} else {
					checkSet(t, c, p, n, api.OK)
				}
			}
			checkMany(t, x, len(want), nodes)
			for range 5 {
				if got := collected(t, all, 16); !slices.Equal(got, want) {
					t.Errorf("told is %v", some(got))
				}
			}
			for range x.Under(of(strconv.Itoa(n%2), 16)) {
				c.Clear()
			}
		})
	}
	group.Wait()
	checkMany(t, x, len(want), nodes)
}
