package tern

import (
	"slices"

	"turnout/api"
)

// A group are the entries of one shape.
type group struct {
	shape shape
	held  map[values][]api.Entry // by what is left of their values: no list is empty, each is in order
	top   int                    // the greatest priority
}

func newGroup(s shape) *group {
	return &group{shape: s, held: map[values][]api.Entry{}}
}

// hit are the entries that hit a key, in their order.
func (g *group) hit(key values) []api.Entry {
	if !g.shape.takes(key) {
		return nil
	}
	return g.held[g.shape.left(key)]
}

// lay puts an entry into the list of what is left of its values.
func (g *group) lay(left values, at int, e api.Entry) {
	g.held[left] = slices.Insert(g.held[left], at, e)
	g.top = max(g.top, e.Priority)
}

// free takes an entry out again.
func (g *group) free(left values, at int) {
	priority := g.held[left][at].Priority
	g.held[left] = slices.Delete(g.held[left], at, at+1)
	if len(g.held[left]) == 0 {
		delete(g.held, left)
	}
	if priority == g.top {
		g.top = g.greatest()
	}
}

// greatest is the greatest priority, found anew.
func (g *group) greatest() int {
	top := 0
	for _, list := range g.held {
		top = max(top, list[0].Priority)
	}
	return top
}

// copied is another group of the same entries. They share their matches and arguments, which are never changed.
func (g *group) copied() *group {
	c := newGroup(g.shape)
	c.top = g.top
	for left, list := range g.held {
		c.held[left] = slices.Clone(list)
	}
	return c
}
