package tern

import (
	"cmp"
	"slices"
	"strings"

	"turnout/api"
	"turnout/match"
	"turnout/schema"
)

// needed is as much of a sound schema as tells which entries are right for one of its tables, in new memory.
func needed(s api.Schema, t api.Table) api.Schema {
	asked := func(head string) bool {
		return slices.ContainsFunc(t.Keys, func(k api.Key) bool { return k.Ref.Head == head })
	}
	less := api.Schema{Tables: []api.Table{t}}
	for _, h := range s.Headers {
		if asked(h.Name) {
			less.Headers = append(less.Headers, h)
		}
	}
	if asked("meta") {
		less.Meta = s.Meta
	}
	for _, name := range t.Actions {
		a, _ := schema.Action(s, name)
		a.Steps = nil
		less.Actions = append(less.Actions, a)
	}
	return schema.Copy(less)
}

// key are the values of a key, and whether they are as many as the table's key has parts. One that does not fit its part lies beyond what any shape takes.
func (l *List) key(key []api.Bits) (values, bool) {
	var v values
	if l == nil || len(key) != len(l.parts) {
		return v, false
	}
	copy(v[:], key)
	return v, true
}

// A place is where an entry stands, or would stand.
type place struct {
	shape shape
	left  values // of its values under its shape
	at    int    // in the list of those that are alike in both
}

// find is the place of an entry, and whether the same one stands there. One that has not as many matches as the key has parts has none.
func (l *List) find(e api.Entry) (place, bool) {
	if l == nil || len(e.Match) != len(l.parts) {
		return place{}, false
	}
	var p place
	p.shape, p.left = l.shapeOf(e)
	g := l.groups[p.shape]
	if g == nil {
		return p, false
	}
	// One that is not right may come to where others stand, but is not the same one as any of them.
	at, there := slices.BinarySearchFunc(g.held[p.left], e, match.Order)
	p.at = at
	return p, there
}

// shapeOf is an entry's shape, and what is left of its values under it.
func (l *List) shapeOf(e api.Entry) (shape, values) {
	var s shape
	var v values
	for i, m := range e.Match {
		s[i], v[i] = l.parts[i].piece(m), m.Value
	}
	return s, s.left(v)
}

// kept is the entry that stands at a place.
func (l *List) kept(p place) *api.Entry {
	return &l.groups[p.shape].held[p.left][p.at]
}

// lay puts an entry in at its place, at which the same one does not stand.
func (l *List) lay(p place, e api.Entry) {
	g := l.groups[p.shape]
	if g == nil {
		g = newGroup(p.shape)
		l.groups[p.shape] = g
	}
	g.lay(p.left, p.at, e)
	l.count++
	l.rank(g)
}

// free takes out what stands at a place.
func (l *List) free(p place) {
	g := l.groups[p.shape]
	g.free(p.left, p.at)
	if len(g.held) == 0 {
		delete(l.groups, p.shape)
	}
	l.count--
	l.rank(g)
}

// rank puts a group that was changed in its place among the others, or, if nothing is left in it, takes it out.
func (l *List) rank(g *group) {
	l.ranked = slices.DeleteFunc(l.ranked, func(o *group) bool { return o == g })
	if len(g.held) == 0 {
		return
	}
	at, _ := slices.BinarySearchFunc(l.ranked, g.top, func(o *group, top int) int { return cmp.Compare(top, o.top) })
	l.ranked = slices.Insert(l.ranked, at, g)
}

// all are all entries, in their order: a list of their own, which no later change reaches but for what they share.
func (l *List) all() []api.Entry {
	if l == nil {
		return nil
	}
	list := make([]api.Entry, 0, l.count)
	for _, g := range l.ranked {
		for _, held := range g.held {
			list = append(list, held...)
		}
	}
	return inOrder(list)
}

// hidden tells whether one stands ahead of an entry of the list that covers it.
func (l *List) hidden(e api.Entry) bool {
	s, left := l.shapeOf(e)
	for _, g := range l.ranked {
		if g.top < e.Priority {
			break
		}
		if !g.shape.wider(&s) {
			continue
		}
		// Those of this list all cover it, so the first one of them tells whether one is ahead.
		if list := g.held[g.shape.left(left)]; len(list) > 0 && match.Order(list[0], e) < 0 {
			return true
		}
	}
	return false
}

// inOrder puts entries in their order.
func inOrder(list []api.Entry) []api.Entry {
	slices.SortFunc(list, match.Order)
	return list
}

// copied is an entry in new memory.
func copied(e api.Entry) api.Entry {
	return api.Entry{
		Match:    slices.Clone(e.Match),
		Priority: e.Priority,
		Call:     api.Call{Action: strings.Clone(e.Call.Action), Args: slices.Clone(e.Call.Args)},
	}
}
