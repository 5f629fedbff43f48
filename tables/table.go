package tables

import (
	"slices"
	"strconv"

	"turnout/api"
	"turnout/match"
	"turnout/schema"
)

// A table is one of a set's.
type table struct {
	api.Table            // what the schema says of it; its key names fields of less
	less      api.Schema // a schema of this table alone
	widths    []int      // of its key's parts
	call      api.Call   // the default one
	entries   way
}

// newTable is a table of a sound schema, as New lays it.
func newTable(s api.Schema, said api.Table) *table {
	less := alone(s, said)
	x := &table{Table: less.Tables[0], less: less}
	for _, f := range less.Meta {
		x.widths = append(x.widths, f.Width)
	}
	x.clear()
	return x
}

// alone is a sound schema that has one of the tables of s alone, and says the same of it: which entries are right for it, and which calls it can have. Those that are asked this look all of a schema over each time: so the fields of its key stand in the metadata, and there is nothing else.
func alone(s api.Schema, said api.Table) api.Schema {
	var less api.Schema
	var keys []api.Key
	for i, k := range said.Keys {
		name := "k" + strconv.Itoa(i)
		less.Meta = append(less.Meta, api.Field{Name: name, Width: schema.Width(s, k.Ref)})
		keys = append(keys, api.Key{Ref: api.Ref{Head: "meta", Name: name}, Kind: k.Kind})
	}
	for _, name := range said.Actions {
		a, _ := schema.Action(s, name)
		a.Steps = nil
		less.Actions = append(less.Actions, a)
	}
	said.Keys = keys
	less.Tables = []api.Table{said}
	return less
}

// clear makes it hold what New lays. What it held is left as it is, for one who keeps it.
func (x *table) clear() {
	x.call, x.entries = x.Default, newWay(x)
}

// held is what it holds.
func (x *table) held() api.Held {
	return api.Held{Default: copiedCall(x.call), Entries: slices.Collect(x.entries.All())}
}

// load makes a table that New laid hold something, if it can; else it holds any.
func (x *table) load(h api.Held) bool {
	if x.canHave(h.Default) != api.OK || x.Fixed && !sameCall(h.Default, x.Default) {
		return false
	}
	x.call = copiedCall(h.Default)
	for i, e := range h.Entries {
		if x.isRight(e) != api.OK || i > 0 && match.Order(h.Entries[i-1], e) >= 0 || x.entries.Put(e) != api.OK {
			return false
		}
	}
	return true
}

// isRight is the error of an entry.
func (x *table) isRight(e api.Entry) api.Errno { return match.Right(x.less, x.Name, e) }

// canHave is the error of a call.
func (x *table) canHave(c api.Call) api.Errno { return schema.Call(x.less, x.Name, c) }

// right is the error of a well made operation on this table.
func (x *table) right(op api.Op) api.Errno {
	switch op.Kind {
	case api.Insert, api.Modify:
		return x.isRight(op.Entry)
	case api.Delete:
		return match.Who(x.less, x.Name, op.Entry)
	case api.Default:
		return x.canHave(op.Entry.Call)
	}
	return api.OK
}

// do does a right operation, and answers what takes it back, as long as all that was done behind it is taken back; with an error nothing was done.
func (x *table) do(op api.Op) (func(), api.Errno) {
	e := op.Entry
	switch op.Kind {
	case api.Insert:
		code := x.entries.Put(e)
		return func() { x.entries.Drop(e) }, code
	case api.Modify:
		was, _ := x.entries.Get(e)
		code := x.entries.Set(e)
		return func() { x.entries.Set(was) }, code
	case api.Delete:
		was, there := x.entries.Drop(e)
		if !there {
			return nil, api.ErrAbsent
		}
		return func() { x.entries.Put(was) }, api.OK
	case api.Default:
		return x.setDefault(e.Call)
	}
	call, entries := x.call, x.entries
	x.clear()
	return func() { x.call, x.entries = call, entries }, api.OK
}

// setDefault sets the default call, and answers what takes it back.
func (x *table) setDefault(c api.Call) (func(), api.Errno) {
	if x.Fixed {
		return nil, api.ErrFixed
	}
	was := x.call
	x.call = copiedCall(c)
	return func() { x.call = was }, api.OK
}
