package exact

import (
	"iter"

	"turnout/sums"
)

// fewest is how many places a row has at first.
const fewest = 8

// A place holds a thing under its text, or is free; a free one is zero.
type place[V any] struct {
	taken  bool
	spread uint32 // the text's: kept, so that no text is gone over again where its place moves
	key    string
	thing  V
}

// A row is places, gone round: behind the last one comes the first one. At least half of them are free, so that each search ends, and soon.
// From a text's home on to the place that holds it all are taken: so a search may end at the first free one.
type row[V any] []place[V]

// spread is the number that says where a text is looked for.
func spread(key string) uint32 { return sums.Spread(0, key) }

// home is the place from which on a text is looked for.
func (r row[V]) home(spread uint32) int { return int(uint64(spread) % uint64(len(r))) }

// behind is the place behind one.
func (r row[V]) behind(at int) int { return (at + 1) % len(r) }

// way is how many places further on another one lies.
func (r row[V]) way(from, to int) int { return (to - from + len(r)) % len(r) }

// find is the place of a text, and true; else the free one at which a search for it ends, and false.
func (r row[V]) find(spread uint32, key string) (int, bool) {
	at := r.home(spread)
	for r[at].taken {
		if r[at].spread == spread && r[at].key == key {
			return at, true
		}
		at = r.behind(at)
	}
	return at, false
}

// lay puts what a place holds down at a free one. Its text must be new to the row.
func (r row[V]) lay(p place[V]) {
	at, _ := r.find(p.spread, p.key)
	r[at] = p
}

// free makes a place free. What stands behind it moves up, where a search would now end ahead of it.
func (r row[V]) free(at int) {
	for next := r.behind(at); r[next].taken; next = r.behind(next) {
		if r.way(r.home(r[next].spread), next) >= r.way(at, next) {
			r[at] = r[next]
			at = next
		}
	}
	r[at] = place[V]{}
}

// roomFor is a row that holds the same, with room for so many: itself, if it has that.
func (r row[V]) roomFor(count int) row[V] {
	if 2*count <= len(r) {
		return r
	}
	wider := make(row[V], 2*len(r))
	for p := range r.taken() {
		wider.lay(p)
	}
	return wider
}

// taken goes over the places that hold something.
func (r row[V]) taken() iter.Seq[place[V]] {
	return func(yield func(place[V]) bool) {
		for _, p := range r {
			if p.taken && !yield(p) {
				return
			}
		}
	}
}
