package tables

import (
	"slices"
	"testing"

	"turnout/api"
)

// one is a table of one part of a kind, 8 bits wide, of at most 2 entries.
func one(t *testing.T, kind int) *table {
	t.Helper()
	s := api.Schema{
		Meta:    []api.Field{{Name: "a", Width: 8}},
		Actions: []api.Action{{Name: "g", Params: []api.Field{{Name: "p", Width: 8}}}},
		Tables:  []api.Table{{Name: "t", Keys: []api.Key{{Ref: api.Ref{Head: "meta", Name: "a"}, Kind: kind}}, Actions: []string{"g"}, Size: 2, Default: api.Call{Action: "g", Args: []api.Bits{{}}}}},
	}
	x, e := New(s)
	if e != api.OK {
		t.Fatal(e)
	}
	return x.tables[0]
}

// entryOf is a right entry of it, that hits the key 0 alone.
func entryOf(kind int, p uint64) api.Entry {
	m := map[int]api.Match{api.Prefix: {Len: 8}, api.Ternary: {Mask: api.Bits{Lo: 255}}}[kind]
	return api.Entry{Match: []api.Match{m}, Priority: kind / api.Ternary, Call: api.Call{Action: "g", Args: []api.Bits{{Lo: p}}}}
}

// TestWayOfKind: tables of each kind are kept in a way of their own.
func TestWayOfKind(t *testing.T) {
	for kind := api.Exact; kind <= api.Range; kind++ {
		var is int
		switch one(t, kind).entries.(type) {
		case *hashed:
			is = api.Exact
		case *longest:
			is = api.Prefix
		case ranked:
			is = api.Ternary
		}
		if is != min(kind, api.Ternary) {
			t.Errorf("%d is kept as %d", kind, is)
		}
	}
}

// spoilt changes what an entry's lists have.
func spoilt(e api.Entry) {
	e.Match[0] = api.Match{Value: api.Bits{Lo: 77}}
	e.Call.Args[0].Lo = 99
}

// checkWay holds what a way of one entry answers against that, and spoils each answer.
func checkWay(t *testing.T, w way, want api.Entry) {
	t.Helper()
	for range 2 {
		got, there := w.Get(want)
		found, hit := w.Find([]api.Bits{{}})
		list := slices.Collect(w.All())
		if !there || !hit || len(list) != 1 || w.Len() != 1 {
			t.Fatalf("%v: %v %v %v", want, there, hit, list)
		}
		for _, e := range []api.Entry{got, found, list[0]} {
			if !sameEntry(e, want) {
				t.Errorf("%v, not %v", e, want)
			}
		}
		spoilt(got)
		spoilt(found)
		spoilt(list[0])
	}
}

// TestWaysShareNothing: a way keeps nothing of what it is handed, and what it answers is new memory, which it shares with no copy.
func TestWaysShareNothing(t *testing.T) {
	for kind := api.Exact; kind <= api.Ternary; kind++ {
		w := one(t, kind).entries
		e := entryOf(kind, 5)
		w.Put(e)
		spoilt(e)
		checkWay(t, w, entryOf(kind, 5))
		old := w.copied()
		e = entryOf(kind, 6)
		w.Set(e)
		spoilt(e)
		checkWay(t, w, entryOf(kind, 6))
		checkWay(t, old, entryOf(kind, 5))
		gone, there := w.copied().Drop(entryOf(kind, 0))
		if !there || !sameEntry(gone, entryOf(kind, 6)) {
			t.Errorf("%d: Drop is %v %v", kind, gone, there)
		}
		spoilt(gone)
		checkWay(t, w, entryOf(kind, 6))
	}
}
