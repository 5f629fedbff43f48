package exact_test

import (
	"iter"
	"slices"
	"testing"

	"turnout/api"
	"turnout/exact"
)

// held is a text with the thing under it.
type held struct {
	key string
	v   int
}

// fresh is a map of at most so many.
func fresh[V any](t *testing.T, most int) *exact.Map[V] {
	t.Helper()
	m, e := exact.New[V](most)
	if m == nil || e != api.OK {
		t.Fatalf("New(%d): %v %d", most, m, e)
	}
	return m
}

// filled is a map that holds these texts, each with its number in the list.
func filled(t *testing.T, most int, keys ...string) *exact.Map[int] {
	t.Helper()
	m := fresh[int](t, most)
	for i, key := range keys {
		checkPut(t, m, key, i, api.OK)
	}
	return m
}

func checkPut[V any](t *testing.T, m *exact.Map[V], key string, v V, want api.Errno) {
	t.Helper()
	if e := m.Put(key, v); e != want {
		t.Errorf("Put(%s, %v) is %d, not %d", short(key), v, e, want)
	}
}

func checkSet[V any](t *testing.T, m *exact.Map[V], key string, v V, want api.Errno) {
	t.Helper()
	if e := m.Set(key, v); e != want {
		t.Errorf("Set(%s, %v) is %d, not %d", short(key), v, e, want)
	}
}

func checkGet[V comparable](t *testing.T, m *exact.Map[V], key string, want V, there bool) {
	t.Helper()
	if v, is := m.Get(key); v != want || is != there {
		t.Errorf("Get(%s) is %v %v, not %v %v", short(key), v, is, want, there)
	}
}

func checkDrop[V comparable](t *testing.T, m *exact.Map[V], key string, want V, there bool) {
	t.Helper()
	if v, is := m.Drop(key); v != want || is != there {
		t.Errorf("Drop(%s) is %v %v, not %v %v", short(key), v, is, want, there)
	}
}

func checkLen[V any](t *testing.T, m *exact.Map[V], want int) {
	t.Helper()
	if n := m.Len(); n != want {
		t.Errorf("Len is %d, not %d", n, want)
	}
}

// collected is what an iterator tells.
func collected(all iter.Seq2[string, int]) []held {
	var list []held
	for key, v := range all {
		list = append(list, held{key, v})
	}
	return list
}

func checkAll(t *testing.T, m *exact.Map[int], want ...held) {
	t.Helper()
	checkTold(t, m.All(), want...)
}

func checkTold(t *testing.T, all iter.Seq2[string, int], want ...held) {
	t.Helper()
	if all == nil {
		t.Fatal("no iterator")
	}
	if got := collected(all); !slices.Equal(got, want) {
		t.Errorf("told is %v, not %v", some(got), some(want))
	}
}

// short is a text that is not too long for a message.
func short(s string) string {
	if len(s) > 40 {
		s = s[:40] + ".."
	}
	return "\"" + s + "\""
}

// some is a list that is not too long for a message.
func some(list []held) []held { return list[:min(len(list), 20)] }
