package tern_test

import (
	"iter"
	"testing"

	"turnout/api"
	"turnout/tern"
)

// R5

func TestIteratorIsNeverNil(t *testing.T) {
	var none *tern.List
	for what, l := range map[string]*tern.List{"empty": filled(t), "some": filled(t, inU(1, 1, 0, 9, 2)), "nil": none} {
		if l.All() == nil {
			t.Errorf("%s: no iterator", what)
		}
	}
}

// numbered is an entry with a number as its call's argument.
func numbered(mask, value uint64, priority int, p uint64) api.Entry {
	return entry(priority, call("g", p), masked(value, mask))
}

// five are entries of three shapes, in their order, some alike but for their priorities.
func five() []api.Entry {
	return []api.Entry{numbered(1, 1, 9, 0), numbered(3, 1, 8, 1), numbered(1, 0, 7, 2), numbered(1, 1, 7, 3), numbered(0, 0, 5, 4)}
}

// listOf is a list of a table of one ternary part with these entries.
func listOf(t *testing.T, list ...api.Entry) *tern.List {
	t.Helper()
	l := fresh(t, keyed(kindred{api.Ternary, 8}), "t", 99)
	for _, e := range list {
		checkPut(t, l, e, api.OK)
	}
	return l
}

func TestLeftEarly(t *testing.T) {
	all := listOf(t, five()...).All()
	for n := 1; n <= 5; n++ {
		var got []api.Entry
		for e := range all {
			got = append(got, e)
			if len(got) == n {
				break
			}
		}
		checkEntries(t, "left early", got, five()[:n])
	}
	checkEntries(t, "behind that", collected(t, all), five())
}

// TestTellsNoMore: once it is left, nothing is told.
func TestTellsNoMore(t *testing.T) {
	all := listOf(t, five()...).All()
	for n := 1; n <= 6; n++ {
		many := 0
		all(func(api.Entry) bool {
			many++
			return many < n
		})
		if many != min(n, 5) {
			t.Errorf("left at %d: %d were told", n, many)
		}
	}
}

// changed are what may be done to the list of five while a range over it goes on.
func changed() map[string]func(l *tern.List) {
	put := func(l *tern.List, list ...api.Entry) {
		for _, e := range list {
			l.Put(e)
		}
	}
	drop := func(l *tern.List, list ...api.Entry) {
		for _, e := range list {
			l.Drop(e)
		}
	}
	return map[string]func(l *tern.List){
		"Put ahead":        func(l *tern.List) { put(l, numbered(1, 1, 10, 9), numbered(7, 1, 99, 9)) },
		"Put between":      func(l *tern.List) { put(l, numbered(1, 1, 8, 9), numbered(1, 0, 8, 9), numbered(15, 3, 7, 9)) },
		"Put behind":       func(l *tern.List) { put(l, numbered(1, 1, 1, 9), numbered(0, 0, 4, 9)) },
		"Drop the first":   func(l *tern.List) { drop(l, five()[0]) },
		"Drop one between": func(l *tern.List) { drop(l, five()[2]) },
		"Drop a shape":     func(l *tern.List) { drop(l, five()[1]) },
		"Drop the last":    func(l *tern.List) { drop(l, five()[4]) },
		"Drop all":         func(l *tern.List) { drop(l, five()...) },
		"Drop and Put":     func(l *tern.List) { drop(l, five()[:4]...); put(l, five()[3], five()[1]) },
		"Drop and others":  func(l *tern.List) { drop(l, five()[0], five()[3]); put(l, numbered(1, 1, 2, 8), numbered(1, 1, 3, 8)) },
		"Clear":            func(l *tern.List) { l.Clear() },
		"Clear and Put":    func(l *tern.List) { l.Clear(); put(l, numbered(1, 1, 9, 7), numbered(2, 0, 9, 7)) },
		"Clear of a copy":  func(l *tern.List) { l.Copy().Clear() },
		"Set": func(l *tern.List) {
			for _, e := range five() {
				e.Call = call("g", 77)
				l.Set(e)
			}
		},
	}
}

// TestAsItBegan: a range tells what there was when it began, whatever is done meanwhile, at whatever place; the next one tells what there is then.
func TestAsItBegan(t *testing.T) {
	for what, change := range changed() {
		for at := range 5 {
			l, same := listOf(t, five()...), listOf(t, five()...)
			all := l.All()
			var got []api.Entry
			for e := range all {
				if len(got) == at {
					change(l)
				}
				got = append(got, e)
			}
			checkEntries(t, what, got, five())
			change(same)
			checkEntries(t, what+", again", collected(t, all), collected(t, same.All()))
		}
	}
}

// TestFromTheRange: what is done between the call and the range is told.
func TestFromTheRange(t *testing.T) {
	for what, change := range changed() {
		l, same := listOf(t, five()...), listOf(t, five()...)
		all := l.All()
		change(l)
		change(same)
		checkEntries(t, what, collected(t, all), collected(t, same.All()))
	}
	l := listOf(t)
	all := l.All()
	checkEntries(t, "of none", collected(t, all), nil)
	checkPut(t, l, five()[0], api.OK)
	checkEntries(t, "of one", collected(t, all), five()[:1])
	l.Clear()
	checkEntries(t, "of none again", collected(t, all), nil)
}

// TestWithinItself: ranges within one another, over one iterator; what was changed between them is told by the inner one alone.
func TestWithinItself(t *testing.T) {
	l := listOf(t, five()...)
	all := l.All()
	many := 0
	for e := range all {
		if !alike(e, five()[many]) {
			t.Errorf("%d is %v", many, e)
		}
		many++
		checkDrop(t, l, e, e)
		checkEntries(t, "the inner one", collected(t, all), five()[many:])
	}
	if many != 5 {
		t.Errorf("%d were told", many)
	}
}

// TestByTurns: two ranges over one iterator go on by turns, each with what there was when it began.
func TestByTurns(t *testing.T) {
	l := listOf(t, five()...)
	all := l.All()
	one, stopOne := iter.Pull(all)
	two, stopTwo := iter.Pull(all)
	defer stopOne()
	defer stopTwo()
	next := func(pull func() (api.Entry, bool), want ...api.Entry) {
		t.Helper()
		got, there := pull()
		checkOne(t, "next", got, there, want)
	}
	set := five()[4]
	set.Call = call("g", 50)
	next(one, five()[0])
	checkDrop(t, l, five()[1], five()[1])
	checkSet(t, l, set, api.OK)
	next(two, five()[0])
	next(one, five()[1])
	l.Clear()
	next(two, five()[2])
	next(one, five()[2])
	next(two, five()[3])
	next(two, set)
	next(one, five()[3])
	next(one, five()[4])
	next(one)
	next(two)
}

// TestThrownOutOf: a range that ends by a panic leaves the list and the iterator as they were.
func TestThrownOutOf(t *testing.T) {
	l := listOf(t, five()...)
	all := l.All()
	func() {
		defer func() {
			if r := recover(); r != "out" {
				t.Errorf("recovered %v", r)
			}
		}()
		for e := range all {
			if e.Priority == 7 {
				panic("out")
			}
		}
	}()
	checkEntries(t, "behind it", collected(t, all), five())
	checkAll(t, l, five()...)
}
