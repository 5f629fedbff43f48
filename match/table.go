package match

import (
	"slices"

	"turnout/api"
	"turnout/schema"
	"turnout/value"
)

// A table is one of a sound schema, with the parts of its key.
type table struct {
	schema  api.Schema
	name    string
	actions []string
	ranked  bool // its entries have priorities: it is of the kind Ternary
	parts   []part
}

// found is the table of a name: ErrSchema, ErrTable, if there is none.
func found(s api.Schema, name string) (*table, api.Errno) {
	if e, _ := schema.Check(s); e != api.OK {
		return nil, api.ErrSchema
	}
	t, _, ok := schema.Table(s, name)
	if !ok {
		return nil, api.ErrTable
	}
	k := &table{schema: s, name: name, actions: t.Actions, ranked: schema.Kind(t) == api.Ternary}
	made := kinds()
	for _, key := range t.Keys {
		k.parts = append(k.parts, made[key.Kind](schema.Width(s, key.Ref)))
	}
	return k, api.OK
}

// who is the error of an entry's matches and priority.
func (k *table) who(e api.Entry) api.Errno {
	if !slices.EqualFunc(k.parts, e.Match, func(p part, m api.Match) bool { return p.may(m) }) {
		return api.ErrKey
	}
	least, most := 0, 0
	if k.ranked {
		least, most = 1, api.MaxPriority
	}
	if e.Priority < least || e.Priority > most {
		return api.ErrPriority
	}
	return api.OK
}

// right is the error of an entry.
func (k *table) right(e api.Entry) api.Errno {
	if code := k.who(e); code != api.OK {
		return code
	}
	return schema.Call(k.schema, k.name, e.Call)
}

// isKey tells whether a list is a key of the table.
func (k *table) isKey(key []api.Bits) bool {
	return slices.EqualFunc(k.parts, key, func(p part, a api.Bits) bool { return value.Fits(a, p.width) })
}

// hits tells whether an entry may be in the table, and hits a key of it.
func (k *table) hits(e api.Entry, key []api.Bits) bool {
	if k.who(e) != api.OK {
		return false
	}
	return slices.EqualFunc(k.asks(e), key, func(ask asking, a api.Bits) bool { return ask(a) })
}

// asks are what an entry that may be in the table asks of a key, part by part.
func (k *table) asks(e api.Entry) []asking {
	var list []asking
	for i, p := range k.parts {
		list = append(list, p.hits(e.Match[i]))
	}
	return list
}

// all tells whether two entries may be in the table, and something holds of their matches in each part.
// Each match hits some value, and the parts of a key are free of one another: so what holds of the entries holds part by part.
func (k *table) all(a, b api.Entry, holds func(p part, a, b api.Match) bool) bool {
	if k.who(a) != api.OK || k.who(b) != api.OK {
		return false
	}
	for i, p := range k.parts {
		if !holds(p, a.Match[i], b.Match[i]) {
			return false
		}
	}
	return true
}

// params are the parameters of an action that the table has.
func (k *table) params(action string) []api.Field {
	a, _ := schema.Action(k.schema, action)
	return a.Params
}
