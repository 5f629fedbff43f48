package tables

import (
	"iter"
	"strings"

	"turnout/api"
	"turnout/exact"
	"turnout/value"
)

// hashed keeps the entries of a table of the kind Exact: in a hash table, under the texts of their values.
type hashed struct {
	widths []int
	kept   *exact.Map[api.Entry]
}

func newHashed(x *table) *hashed {
	kept, _ := exact.New[api.Entry](x.Size)
	return &hashed{widths: x.widths, kept: kept}
}

// text is that of values, one for each width. Texts of the same widths stand in the order of their values.
func text(values []api.Bits, widths []int) string {
	var b strings.Builder
	for i, a := range values {
		part, _ := value.Bytes(a, widths[i])
		b.WriteString(part)
	}
	return b.String()
}

// values are those of an entry's matches.
func values(e api.Entry) []api.Bits {
	var list []api.Bits
	for _, m := range e.Match {
		list = append(list, m.Value)
	}
	return list
}

func (h *hashed) text(e api.Entry) string { return text(values(e), h.widths) }

func (h *hashed) Put(e api.Entry) api.Errno { return h.kept.Put(h.text(e), copied(e)) }

func (h *hashed) Set(e api.Entry) api.Errno { return h.kept.Set(h.text(e), copied(e)) }

func (h *hashed) Drop(e api.Entry) (api.Entry, bool) {
	was, there := h.kept.Drop(h.text(e))
	return copied(was), there
}

func (h *hashed) Get(e api.Entry) (api.Entry, bool) { return h.Find(values(e)) }

func (h *hashed) Find(key []api.Bits) (api.Entry, bool) {
	e, there := h.kept.Get(text(key, h.widths))
	return copied(e), there
}

func (h *hashed) Len() int { return h.kept.Len() }

func (h *hashed) All() iter.Seq[api.Entry] {
	return func(yield func(api.Entry) bool) {
		// By rising texts is in the order of entries: here they are unlike in their values alone.
		for _, e := range h.kept.All() {
			if !yield(copied(e)) {
				return
			}
		}
	}
}

// copied: both share what entries have, which is never changed.
func (h *hashed) copied() way { return &hashed{widths: h.widths, kept: h.kept.Copy()} }
