package exact

import (
	"math/rand"
	"slices"
	"strconv"
	"testing"

	"turnout/api"
	"turnout/sums"
)

// slots are the places that texts take in a row of so many, as chapter 2 says.
func slots(t *testing.T, many int, keys []string) []int {
	t.Helper()
	list, e := sums.Slots(0, many, keys...)
	if e != api.OK {
		t.Fatal(e)
	}
	slices.Sort(list)
	return list
}

// takenIn are the places of a map that hold something; each free one must be zero.
func takenIn(t *testing.T, m *Map[int]) []int {
	t.Helper()
	var list []int
	for at, p := range m.places {
		if p.taken {
			list = append(list, at)
		} else if p != (place[int]{}) {
			t.Errorf("free, but not zero: %+v", p)
		}
	}
	return list
}

// TestNoMark: the places that are taken are those that the texts which are there would take by themselves: what was taken out leaves no mark. At least half of all are free.
func TestNoMark(t *testing.T) {
	r := rand.New(rand.NewSource(15))
	for _, most := range []int{1, 4, 5, 8, 20, 300, api.MaxCapacity} {
		m, _ := New[int](most)
		for step := range 3000 {
			key := strconv.Itoa(r.Intn(2 * most))
			if r.Intn(5) < 3 {
				m.Put(key, step+1)
			} else {
				m.Drop(key)
			}
			if step%(1+most/20) > 0 {
				continue
			}
			var keys []string
			for key := range m.All() {
				keys = append(keys, key)
			}
			if got, want := takenIn(t, m), slots(t, len(m.places), keys); !slices.Equal(got, want) {
				t.Fatalf("most %d, step %d: %v are taken, not %v", most, step, got, want)
			}
			if 2*m.count > len(m.places) || len(keys) != m.count {
				t.Fatalf("most %d, step %d: %d texts, %d counted, %d places", most, step, len(keys), m.count, len(m.places))
			}
		}
	}
}
