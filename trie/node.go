package trie

import "iter"

// A node stands for a prefix under which something is kept, or for a fork: no other one is there.
// What hangs on it is longer than its own prefix and begins with it; behind it comes a 0 for next[0], a 1 for next[1].
// A node that hangs in a tree is never changed: a change makes new nodes from the top down to its place. So copies may share nodes, and a range goes on over those that it began with.
type node[V any] struct {
	at    Prefix
	thing *V // nil: a fork
	next  [2]*node[V]
}

// with is what stands in the place of n, if a thing is kept under p, too. p must belong there.
func (t *Trie[V]) with(n *node[V], p Prefix, thing *V) *node[V] {
	if n == nil {
		return &node[V]{at: p, thing: thing}
	}
	if shared := common(n.at, p, t.width); shared < n.at.Len {
		above := &node[V]{at: first(p.Value, t.width, shared)}
		above.next[side(n.at.Value, t.width, shared)] = n
		return t.with(above, p, thing)
	}
	changed := *n
	if n.at == p {
		changed.thing = thing
		return &changed
	}
	i := side(p.Value, t.width, n.at.Len)
	changed.next[i] = t.with(n.next[i], p, thing)
	return &changed
}

// without is what stands in the place of n, if what is kept under p is gone. Something must be kept under it.
func (t *Trie[V]) without(n *node[V], p Prefix) *node[V] {
	changed := *n
	if n.at == p {
		changed.thing = nil
	} else {
		i := side(p.Value, t.width, n.at.Len)
		changed.next[i] = t.without(n.next[i], p)
	}
	return changed.unlessIdle()
}

// unlessIdle is the node, or, if it keeps nothing and is no fork, what stands in its place.
func (n *node[V]) unlessIdle() *node[V] {
	if n.thing != nil || n.next[0] != nil && n.next[1] != nil {
		return n
	}
	if n.next[0] != nil {
		return n.next[0]
	}
	return n.next[1]
}

// way goes over the nodes whose prefixes begin p, the shortest first.
func (t *Trie[V]) way(p Prefix) iter.Seq[*node[V]] {
	return func(yield func(*node[V]) bool) {
		n := t.top
		for n != nil && begins(n.at, p, t.width) && yield(n) {
			n = n.next[side(p.Value, t.width, n.at.Len)]
		}
	}
}

// under is the node on which all those hang whose prefixes p begins, or nil.
func (t *Trie[V]) under(p Prefix) *node[V] {
	n := t.top
	for n != nil && n.at.Len < p.Len {
		n = n.next[side(p.Value, t.width, n.at.Len)]
	}
	// The way down asked one bit a node: whether those between are p's shows here.
	if n == nil || !begins(p, n.at, t.width) {
		return nil
	}
	return n
}

// each goes over a node and all that hang on it, in the order of their prefixes.
func each[V any](top *node[V]) iter.Seq[*node[V]] {
	return func(yield func(*node[V]) bool) {
		var walk func(n *node[V]) bool
		walk = func(n *node[V]) bool {
			return n == nil || yield(n) && walk(n.next[0]) && walk(n.next[1])
		}
		walk(top)
	}
}
