package tables

import (
	"iter"
	"slices"

	"turnout/api"
	"turnout/exact"
	"turnout/match"
	"turnout/trie"
)

// longest keeps the entries of a table of the kind Prefix: those that are alike in all other parts stand in one trie, by their prefixes.
type longest struct {
	at    int   // the prefix's part
	width int   // its width
	rest  []int // the widths of the others
	most  int
	count int
	kept  *exact.Map[*trie.Trie[api.Entry]] // by the texts of the other parts; no trie is empty
}

func newLongest(x *table) *longest {
	at := slices.IndexFunc(x.Keys, func(k api.Key) bool { return k.Kind == api.Prefix })
	kept, _ := exact.New[*trie.Trie[api.Entry]](x.Size)
	return &longest{at: at, width: x.widths[at], rest: without(x.widths, at), most: x.Size, kept: kept}
}

// without is a list but for one of its things.
func without[T any](list []T, at int) []T { return slices.Concat(list[:at], list[at+1:]) }

// text is that of the values of all parts but the prefix's.
func (l *longest) text(key []api.Bits) string { return text(without(key, l.at), l.rest) }

// place is where an entry is kept: in the trie of a text, under a prefix.
func (l *longest) place(e api.Entry) (string, trie.Prefix) {
	m := e.Match[l.at]
	return l.text(values(e)), trie.Prefix{Value: m.Value, Len: m.Len}
}

func (l *longest) Put(e api.Entry) api.Errno {
	if _, there := l.Get(e); there {
		return api.ErrDup
	}
	if l.count == l.most {
		return api.ErrFull
	}
	text, p := l.place(e)
	alike, there := l.kept.Get(text)
	if !there {
		alike, _ = trie.New[api.Entry](l.width, l.most)
		l.kept.Put(text, alike)
	}
	l.count++
	return alike.Put(p, copied(e))
}

func (l *longest) Set(e api.Entry) api.Errno {
	text, p := l.place(e)
	alike, there := l.kept.Get(text)
	if !there {
		return api.ErrAbsent
	}
	return alike.Set(p, copied(e))
}

func (l *longest) Drop(e api.Entry) (api.Entry, bool) {
	text, p := l.place(e)
	alike, _ := l.kept.Get(text)
	was, there := alike.Drop(p)
	if there {
		l.count--
	}
	if alike.Len() == 0 {
		l.kept.Drop(text)
	}
	return copied(was), there
}

func (l *longest) Get(e api.Entry) (api.Entry, bool) {
	text, p := l.place(e)
	alike, _ := l.kept.Get(text)
	was, there := alike.Get(p)
	return copied(was), there
}

func (l *longest) Find(key []api.Bits) (api.Entry, bool) {
	alike, _ := l.kept.Get(l.text(key))
	_, e, there := alike.Find(key[l.at])
	return copied(e), there
}

func (l *longest) Len() int { return l.count }

func (l *longest) All() iter.Seq[api.Entry] {
	return func(yield func(api.Entry) bool) {
		for _, e := range l.sorted() {
			if !yield(copied(e)) {
				return
			}
		}
	}
}

// sorted are the entries, in their order: a list of its own, which no later change reaches.
func (l *longest) sorted() []api.Entry {
	var list []api.Entry
	for _, alike := range l.kept.All() {
		for _, e := range alike.All() {
			list = append(list, e)
		}
	}
	slices.SortFunc(list, match.Order)
	return list
}

// copied: both share what entries have, which is never changed.
func (l *longest) copied() way {
	c := *l
	c.kept = l.kept.Copy()
	for text, alike := range l.kept.All() {
		c.kept.Set(text, alike.Copy())
	}
	return &c
}
