package tern_test

import (
	"math"
	"math/rand"
	"reflect"
	"runtime"
	"slices"
	"strings"
	"sync"
	"testing"
	"unsafe"
	"weak"

	"turnout/api"
	"turnout/match"
	"turnout/schema"
	"turnout/tern"
)

// R1

// TestNil: a nil list answers zero values and does nothing, with an error: ErrArg.
func TestNil(t *testing.T) {
	var l *tern.List
	list := []api.Entry{{}, inU(2, 3, 5, 9, 7), inU(4, 3, 5, 9, 7)}
	for _, e := range list {
		checkPut(t, l, e, api.ErrArg)
		checkSet(t, l, e, api.ErrArg)
		checkDrop(t, l, e)
		checkGet(t, l, e)
	}
	for _, key := range [][]api.Bits{nil, {}, ns(2, 5)} {
		checkFind(t, l, key)
		checkEvery(t, l, key)
	}
	checkHidden(t, l)
	checkGroups(t, l, 0)
	checkAll(t, l)
	l.Clear()
	if l.Copy() != nil {
		t.Error("a copy of nil")
	}
}

// drawAny is an entry of a table; half of them are right, in the others anything is changed.
func drawAny(r *rand.Rand, s api.Schema, table api.Table) api.Entry {
	var e api.Entry
	for _, k := range table.Keys {
		e.Match = append(e.Match, drawMatch(r, k.Kind, schema.Width(s, k.Ref)))
	}
	if ranked(s, table.Name) {
		e.Priority = 1 + r.Intn(3)
	}
	e.Call.Action = table.Actions[r.Intn(len(table.Actions))]
	a, _ := schema.Action(s, e.Call.Action)
	for _, p := range a.Params {
		e.Call.Args = append(e.Call.Args, drawValue(r, p.Width))
	}
	ints := []int{math.MinInt, math.MinInt32, -129, -1, 0, 1, 2, 8, 9, 31, 32, 33, 127, 128, 129, api.MaxPriority, api.MaxPriority + 1, math.MaxInt32, math.MaxInt}
	at := r.Intn(len(e.Match))
	switch r.Intn(16) {
	case 0:
		e.Match = e.Match[:at]
	case 1:
		e.Match = append(e.Match, e.Match[:at+1]...)
	case 2:
		e.Match = make([]api.Match, 9+at)
	case 3:
		e.Match[at].Value = drawValues(r, 1)[0]
	case 4:
		e.Match[at].Mask = drawValues(r, 1)[0]
	case 5:
		e.Match[at].Len = ints[r.Intn(len(ints))]
	case 6:
		e.Priority = ints[r.Intn(len(ints))]
	case 7:
		e.Call.Action = []string{"none", "out", "hop", "grow", "", "x"}[r.Intn(6)]
	case 8:
		e.Call.Args = drawValues(r, r.Intn(4))
	}
	return e
}

// drawValues are so many, any ones, most of them small.
func drawValues(r *rand.Rand, many int) []api.Bits {
	numbers := []uint64{0, 0, 0, 0, 1, 1, 1, 2, 3, 127, 128, 255, 256, 511, 512, 1 << 31, 1 << 32, 1 << 63, math.MaxUint64 - 1, math.MaxUint64}
	var list []api.Bits
	for range many {
		a := n(numbers[r.Intn(len(numbers))])
		if r.Intn(5) == 0 {
			a.Hi = numbers[r.Intn(len(numbers))]
		}
		list = append(list, a)
	}
	return list
}

// TestTotal: any numbers for the arguments, in tables of all kinds; what is taken is what match.Right takes.
func TestTotal(t *testing.T) {
	r := rand.New(rand.NewSource(14))
	s := whole()
	for _, table := range s.Tables {
		l := fresh(t, s, table.Name, api.MaxCapacity)
		var kept []api.Entry
		refused := 0
		for range 300 {
			e := drawAny(r, s, table)
			want := match.Right(s, table.Name, e)
			at := slices.IndexFunc(kept, func(k api.Entry) bool { return match.Same(k, e) })
			if at >= 0 {
				checkGet(t, l, e, kept[at])
			} else {
				checkGet(t, l, e)
			}
			switch {
			case want != api.OK:
				refused++
				checkPut(t, l, e, want)
				checkSet(t, l, e, want)
			case at >= 0:
				checkPut(t, l, e, api.ErrDup)
				checkSet(t, l, e, api.OK)
				kept[at].Call = e.Call
			default:
				checkSet(t, l, e, api.ErrAbsent)
				checkPut(t, l, e, api.OK)
				kept = append(kept, e)
			}
			key := drawValues(r, []int{len(table.Keys), r.Intn(10)}[r.Intn(2)])
			var hit []api.Entry
			for _, k := range kept {
				if match.Hits(s, table.Name, k, key) {
					hit = append(hit, k)
				}
			}
			slices.SortFunc(hit, match.Order)
			checkEvery(t, l, key, hit...)
			checkFind(t, l, key, hit[:min(1, len(hit))]...)
			if t.Failed() {
				t.FailNow()
			}
		}
		if len(kept) < 50 || refused < 70 {
			t.Errorf("%s: %d are kept, %d were refused", table.Name, len(kept), refused)
		}
	}
}

// R3

// TestHandedInIsNotKept: nor changed, its spare room neither.
func TestHandedInIsNotKept(t *testing.T) {
	l := fresh(t, whole(), "route", 9)
	want := entry(0, call("hop", 1, 2, 3), begins(0x0a000000, 8), exactly(6))
	args := ns(1, 2, 3, 4, 5)
	matches := []api.Match{begins(0x0a000000, 8), exactly(6), exactly(7), exactly(8)}
	hand := func() api.Entry {
		return entry(0, api.Call{Action: "hop", Args: args[:3]}, matches[:2]...)
	}
	given := entry(0, api.Call{Action: "hop", Args: args[:3]})
	given.Match = matches[:2]
	checkPut(t, l, given, api.OK)
	checkPut(t, l, given, api.ErrDup)
	checkSet(t, l, given, api.OK)
	checkGet(t, l, given, want)
	if !slices.Equal(args, ns(1, 2, 3, 4, 5)) || !slices.Equal(matches, []api.Match{begins(0x0a000000, 8), exactly(6), exactly(7), exactly(8)}) {
		t.Errorf("changed: %v %v", args, matches)
	}
	c := l.Copy()
	spoil(given)
	checkAll(t, l, want)
	checkAll(t, c, want)
	copy(args, ns(7, 7, 7))
	copy(matches, want.Match)
	checkSet(t, l, hand(), api.OK)
	spoil(given)
	want.Call = call("hop", 7, 7, 7)
	checkAll(t, l, want)
	key := make([]api.Bits, 2, 9)
	key[0], key[1] = n(0x0a000001), n(6)
	checkFind(t, l, key, want)
	checkEvery(t, l, key, want)
	if !slices.Equal(key[:9], append(ns(0x0a000001, 6), make([]api.Bits, 7)...)) {
		t.Errorf("the key is %v", key[:9])
	}
}

// TestAnswersAreTheirOwners: what is answered shares nothing with what is kept, nor with another answer, nor within itself.
func TestAnswersAreTheirOwners(t *testing.T) {
	s := whole()
	one := entry(5, call("grow", 1, 9), between(0, 511), masked(0, 0), exactly(1), api.Match{Mask: most})
	two := entry(4, call("out", 9), between(0, 511), masked(0, 0), exactly(1), api.Match{Mask: most})
	key := ns(5, 5, 1, 5)
	for what, ask := range map[string]func(l *tern.List) []api.Entry{
		"Get": func(l *tern.List) []api.Entry {
			a, _ := l.Get(one)
			b, _ := l.Get(two)
			return []api.Entry{a, b}
		},
		"Find": func(l *tern.List) []api.Entry {
			a, _ := l.Find(key)
			return []api.Entry{a}
		},
		"Every":  func(l *tern.List) []api.Entry { return l.Every(key) },
		"Hidden": func(l *tern.List) []api.Entry { return l.Hidden() },
		"All":    func(l *tern.List) []api.Entry { return collected(t, l.All()) },
		"Drop": func(l *tern.List) []api.Entry {
			l = l.Copy()
			a, _ := l.Drop(one)
			b, _ := l.Drop(two)
			return []api.Entry{a, b}
		},
	} {
		l := fresh(t, s, "acl", 9)
		checkPut(t, l, two, api.OK)
		checkPut(t, l, one, api.OK)
		c := l.Copy()
		first, second := ask(l), ask(l)
		var want []api.Entry
		for _, e := range second {
			want = append(want, copied(e))
		}
		if len(want) == 0 {
			t.Fatalf("%s: nothing", what)
		}
		for i, e := range first[:cap(first)] {
			spoil(e)
			first[:cap(first)][i] = api.Entry{Priority: 9}
		}
		checkEntries(t, what, second, want)
		checkAll(t, l, one, two)
		checkAll(t, c, one, two)
		checkFind(t, l, key, one)
		for i, e := range second {
			spoil(e)
			checkEntries(t, what+", those behind it", second[i+1:], want[i+1:])
		}
		checkAll(t, l, one, two)
		checkAll(t, c, one, two)
	}
}

// TestToldInARange: what a range told may be changed, while it goes on and behind it.
func TestToldInARange(t *testing.T) {
	l := listOf(t, five()...)
	all := l.All()
	i := 0
	for e := range all {
		if !alike(e, five()[i]) {
			t.Errorf("%d is %v", i, e)
		}
		spoil(e)
		i++
		checkEntries(t, "the inner one", collected(t, all), five())
	}
	checkAll(t, l, five()...)
}

// TestSchemaIsNotChanged: by any call.
func TestSchemaIsNotChanged(t *testing.T) {
	s, same := whole(), whole()
	l := fresh(t, s, "route", 9)
	l.Put(entry(0, call("out", 1), begins(0, 0), exactly(1)))
	l.Find(ns(1, 1))
	l.Copy().Clear()
	if !reflect.DeepEqual(s, same) {
		t.Error("the schema was changed")
	}
}

// TestHandedInIsLetGo: no list and no text that was handed in is held by the list.
func TestHandedInIsLetGo(t *testing.T) {
	l := listOf(t)
	var lists []weak.Pointer[api.Bits]
	var matches []weak.Pointer[api.Match]
	var texts []weak.Pointer[byte]
	for i, e := range five() {
		text := strings.Repeat("g", 1000+i)
		e.Call.Action = text[:1]
		lists = append(lists, weak.Make(&e.Call.Args[0]))
		matches = append(matches, weak.Make(&e.Match[0]))
		texts = append(texts, weak.Make(unsafe.StringData(text)))
		checkPut(t, l, e, api.OK)
		checkSet(t, l, e, api.OK)
		l.Get(e)
	}
	runtime.GC()
	for i := range lists {
		if lists[i].Value() != nil || matches[i].Value() != nil || texts[i].Value() != nil {
			t.Errorf("%d is held", i)
		}
	}
	checkAll(t, l, five()...)
}

// TestNothingStays: what was taken out needs no room any more.
func TestNothingStays(t *testing.T) {
	l := filled(t, inU(0, 0, 0, 0, 5))
	used := func() uint64 {
		runtime.GC()
		var m runtime.MemStats
		runtime.ReadMemStats(&m)
		return m.HeapAlloc
	}
	before := used()
	for i := range uint64(50000) {
		one, other := inU(i%256, 255, i%999, i, 1+int(i)), inU(0, 0, 0, 0, 6+int(i))
		if l.Put(one) != api.OK || l.Put(other) != api.OK {
			t.Fatal(i)
		}
		checkDrop(t, l, one, one)
		checkDrop(t, l, other, other)
	}
	if after := used(); after > before+2<<20 {
		t.Errorf("%d bytes more", after-before)
	}
	checkAll(t, l, inU(0, 0, 0, 0, 5))
}

// R4, P14.6

// TestByWhateverWay: all that is told hangs on what is kept, not on the order in which it came, nor on what was kept before.
func TestByWhateverWay(t *testing.T) {
	r := rand.New(rand.NewSource(41))
	for range 200 {
		w := drawWorld(r)
		list := w.drawList(r, 1+r.Intn(30))
		kept := r.Intn(len(list) + 1)
		straight, round := fresh(t, w.s, "t", 99), fresh(t, w.s, "t", 99)
		for _, e := range list[:kept] {
			checkPut(t, straight, e, api.OK)
		}
		for _, i := range r.Perm(len(list)) {
			e := copied(list[i])
			e.Call = call("g", 1<<31)
			checkPut(t, round, e, api.OK)
		}
		for _, i := range r.Perm(len(list)) {
			if i < kept {
				checkSet(t, round, list[i], api.OK)
			} else {
				round.Drop(list[i])
			}
		}
		checkAll(t, round, collected(t, straight.All())...)
		checkGroups(t, round, straight.Groups())
		checkHidden(t, round, straight.Hidden()...)
		for range 20 {
			key := w.drawKey(r, list)
			checkEvery(t, round, key, straight.Every(key)...)
			one, there := straight.Find(key)
			if there {
				checkFind(t, round, key, one)
			} else {
				checkFind(t, round, key)
			}
		}
		if t.Failed() {
			t.Fatalf("%v", some(list))
		}
	}
}

// TestTwoLists: two lists have nothing to do with one another.
func TestTwoLists(t *testing.T) {
	s := small()
	a, b, c := fresh(t, s, "u", 1), fresh(t, s, "u", 2), fresh(t, s, "t", 2)
	x := inU(2, 3, 5, 9, 7)
	checkPut(t, a, x, api.OK)
	checkGet(t, b, x)
	checkPut(t, b, x, api.OK)
	checkPut(t, c, x, api.ErrKey)
	checkPut(t, a, inU(0, 0, 0, 0, 1), api.ErrFull)
	checkPut(t, b, inU(0, 0, 0, 0, 1), api.OK)
	a.Clear()
	checkAll(t, a)
	checkAll(t, b, x, inU(0, 0, 0, 0, 1))
}

// R7

// TestSideBySide: calls that only ask, by many goroutines; and what is done to a copy meanwhile.
func TestSideBySide(t *testing.T) {
	r := rand.New(rand.NewSource(7))
	w := world{keyed(kindred{api.Ternary, 8}, kindred{api.Range, 8})}
	l := fresh(t, w.s, "t", 500)
	list := w.drawList(r, 100)
	for _, e := range list {
		checkPut(t, l, e, api.OK)
	}
	slices.SortFunc(list, match.Order)
	hidden, groups, all := l.Hidden(), l.Groups(), l.All()
	var keys [][]api.Bits
	var every [][]api.Entry
	for range 50 {
		keys = append(keys, w.drawKey(r, list))
		every = append(every, l.Every(keys[len(keys)-1]))
	}
	var group sync.WaitGroup
	for n := range 16 {
		group.Go(func() {
			c := l.Copy()
			for i, e := range list {
				checkGet(t, l, e, e)
				if i%16 == n {
					checkDrop(t, c, e, e)
				} else {
					e.Call = call("g", uint64(n))
					checkSet(t, c, e, api.OK)
				}
			}
			for i, key := range keys {
				checkEvery(t, l, key, every[i]...)
				checkFind(t, l, key, every[i][:min(1, len(every[i]))]...)
			}
			checkHidden(t, l, hidden...)
			checkGroups(t, l, groups)
			checkEntries(t, "told", collected(t, all), list)
			checkAll(t, l, list...)
			c.Clear()
		})
	}
	group.Wait()
	checkAll(t, l, list...)
}
