package tables

import (
	"iter"

	"turnout/api"
	"turnout/schema"
	"turnout/tern"
)

// A way is how the entries of a table are kept; each kind of table has its own. It is handed right entries and keys of its table alone, keeps nothing of what it is handed, and what it answers is new memory.
type way interface {
	Put(e api.Entry) api.Errno          // ErrDup, ErrFull
	Set(e api.Entry) api.Errno          // ErrAbsent
	Drop(e api.Entry) (api.Entry, bool) // the same one, as it was kept
	Get(e api.Entry) (api.Entry, bool)  // likewise, but it stays
	Find(key []api.Bits) (api.Entry, bool)
	Len() int
	All() iter.Seq[api.Entry] // in their order
	copied() way
}

// newWay is a way without entries, for a table.
func newWay(x *table) way {
	switch schema.Kind(x.Table) {
	case api.Exact:
		return newHashed(x)
	case api.Prefix:
		return newLongest(x)
	}
	return newRanked(x)
}

// ranked keeps the entries of a table of the kind Ternary: in a list by priority.
type ranked struct{ *tern.List }

func newRanked(x *table) way {
	list, _ := tern.New(x.less, x.Name, x.Size)
	return ranked{list}
}

func (r ranked) copied() way { return ranked{r.Copy()} }
