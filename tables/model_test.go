package tables_test

import (
	"fmt"
	"math/rand"
	"slices"
	"testing"

	"turnout/api"
	"turnout/match"
	"turnout/schema"
	"turnout/tables"
)

// A model keeps what each table holds in lists; it goes by the chapter's words, and asks match and schema of the whole schema.
type model struct {
	s    api.Schema
	held []api.Held
}

func newModel(s api.Schema) *model {
	m := &model{s: s}
	for _, said := range s.Tables {
		m.held = append(m.held, api.Held{Default: said.Default})
	}
	return m
}

// clone is another model that holds the same.
func (m *model) clone() *model {
	c := &model{s: m.s}
	for _, h := range m.held {
		c.held = append(c.held, api.Held{Default: h.Default, Entries: slices.Clone(h.Entries)})
	}
	return c
}

// right is the error of an operation by itself.
func (m *model) right(op api.Op) api.Errno {
	e := op.Entry
	zero := map[string]bool{"match": len(e.Match) == 0, "priority": e.Priority == 0, "call": e.Call.Action == "" && len(e.Call.Args) == 0}
	named := map[int][]string{api.Insert: {}, api.Modify: {}, api.Delete: {"call"}, api.Default: {"match", "priority"}, api.Clear: {"match", "priority", "call"}}
	others, ok := named[op.Kind]
	for _, other := range others {
		ok = ok && zero[other]
	}
	if !ok {
		return api.ErrOp
	}
	if _, _, there := schema.Table(m.s, op.Table); !there {
		return api.ErrTable
	}
	switch op.Kind {
	case api.Insert, api.Modify:
		return match.Right(m.s, op.Table, e)
	case api.Delete:
		return match.Who(m.s, op.Table, e)
	case api.Default:
		return schema.Call(m.s, op.Table, e.Call)
	}
	return api.OK
}

// one does an operation, or answers why it can't be.
func (m *model) one(op api.Op) api.Errno {
	if code := m.right(op); code != api.OK {
		return code
	}
	said, at, _ := schema.Table(m.s, op.Table)
	h := &m.held[at]
	e := copied(op.Entry)
	place := slices.IndexFunc(h.Entries, func(k api.Entry) bool { return match.Same(k, e) })
	switch {
	case op.Kind == api.Clear:
		*h = api.Held{Default: said.Default}
	case op.Kind == api.Default && said.Fixed:
		return api.ErrFixed
	case op.Kind == api.Default:
		h.Default = e.Call
	case op.Kind == api.Insert && place >= 0:
		return api.ErrDup
	case op.Kind == api.Insert && len(h.Entries) == said.Size:
		return api.ErrFull
	case op.Kind == api.Insert:
		h.Entries = append(h.Entries, e)
		slices.SortFunc(h.Entries, match.Order)
	case place < 0:
		return api.ErrAbsent
	case op.Kind == api.Modify:
		h.Entries[place] = e
	default:
		h.Entries = slices.Delete(h.Entries, place, place+1)
	}
	return api.OK
}

// do does a batch.
func (m *model) do(ops []api.Op) (int, api.Errno) {
	if len(ops) == 0 || len(ops) > 64 {
		return 0, api.ErrBatch
	}
	c := m.clone()
	for i, op := range ops {
		if code := c.one(op); code != api.OK {
			return i, code
		}
	}
	m.held = c.held
	return 0, api.OK
}

// lookup is what a table of the schema answers a key of it.
func (m *model) lookup(table string, key []api.Bits) (api.Call, []api.Entry) {
	said, at, _ := schema.Table(m.s, table)
	h := m.held[at]
	part := slices.IndexFunc(said.Keys, func(k api.Key) bool { return k.Kind == api.Prefix })
	var best []api.Entry
	for _, e := range h.Entries {
		if match.Hits(m.s, table, e, key) && (len(best) == 0 || part >= 0 && e.Match[part].Len > best[0].Match[part].Len) {
			best = []api.Entry{e}
		}
	}
	if len(best) == 0 {
		return h.Default, nil
	}
	return best[0].Call, best
}

// checkLike holds all that a set tells, of these keys of a table, against the model.
func checkLike(t *testing.T, x *tables.Set, m *model, table string, keys [][]api.Bits) {
	t.Helper()
	checkHeld(t, "All", x.All(), m.held)
	if table == "" {
		return
	}
	_, at, _ := schema.Table(m.s, table)
	checkTable(t, x, table, m.held[at].Default, m.held[at].Entries...)
	for _, key := range keys {
		c, best := m.lookup(table, key)
		checkLookup(t, x, table, key, c, best...)
		if k := match.Best(m.s, table, m.held[at].Entries, key); k >= 0 != (len(best) > 0) || k >= 0 && !alike(m.held[at].Entries[k], best[0]) {
			t.Errorf("%s: %v: Best is %d", table, key, k)
		}
	}
}

// doBoth does a batch to both.
func doBoth(t *testing.T, x *tables.Set, m *model, ops []api.Op) (int, api.Errno) {
	t.Helper()
	at, want := m.do(ops)
	checkDo(t, x, at, want, ops...)
	return at, want
}

// tiny is the narrowest schema with a table of each kind: each of one bit.
func tiny() api.Schema {
	s := api.Schema{Meta: []api.Field{{Name: "a", Width: 1}}, Actions: []api.Action{{Name: "g"}, {Name: "d"}}}
	for i, kind := range []int{api.Exact, api.Prefix, api.Ternary, api.Range} {
		s.Tables = append(s.Tables, api.Table{Name: string(rune('p' + i)), Keys: []api.Key{{Ref: ref("meta", "a"), Kind: kind}}, Actions: []string{"d", "g"}, Size: 1 + i/2, Default: call("d"), Fixed: i == 3})
	}
	return s
}

// tinyOps are some right operations of one of its tables, such as meet one another.
func tinyOps(said api.Table) []api.Op {
	entries := map[int][]api.Entry{
		api.Exact:   {entry(0, call("g"), exactly(0)), entry(0, call("g"), exactly(1))},
		api.Prefix:  {entry(0, call("g"), begins(0, 0)), entry(0, call("g"), begins(1, 1))},
		api.Ternary: {entry(1, call("g"), masked(0, 0)), entry(1, call("g"), masked(1, 1)), entry(2, call("g"), masked(0, 0))},
		api.Range:   {entry(1, call("g"), between(0, 1)), entry(1, call("g"), between(0, 0)), entry(2, call("g"), between(1, 1))},
	}[said.Keys[0].Kind]
	ops := []api.Op{clearOf(said.Name), setDefault(said.Name, call("g"))}
	for _, e := range entries {
		other := e
		other.Call = call("d")
		ops = append(ops, insert(said.Name, e), modify(said.Name, other), remove(said.Name, e))
	}
	return ops
}

// TestAllScripts: in the narrowest tables all batches of up to three operations, each also as batches of one, and behind it all of one.
func TestAllScripts(t *testing.T) {
	for _, said := range tiny().Tables {
		ops := tinyOps(said)
		var further func(batch []api.Op)
		further = func(batch []api.Op) {
			if len(batch) > 0 {
				checkScript(t, said.Name, batch, ops)
			}
			for _, op := range ops {
				if len(batch) < 3 && !t.Failed() {
					further(append(slices.Clone(batch), op))
				}
			}
		}
		further(nil)
	}
}

// checkScript does a batch behind each cut of itself, and what may come next.
func checkScript(t *testing.T, table string, batch, next []api.Op) {
	t.Helper()
	for cut := range batch {
		x, m := fresh(t, tiny()), newModel(tiny())
		if cut > 0 {
			doBoth(t, x, m, batch[:cut])
		}
		doBoth(t, x, m, batch[cut:])
		checkLike(t, x, m, table, [][]api.Bits{ns(0), ns(1)})
		if cut > 0 {
			continue
		}
		for _, op := range next {
			at, want := m.clone().do([]api.Op{op})
			if k, e := x.Try(op); k != at || e != want {
				t.Errorf("%v, then %v: %d %d, not %d %d", batch, op, k, e, at, want)
			}
		}
	}
}

// A drawer draws schemas, entries and operations.
type drawer struct{ *rand.Rand }

// schema is one with some tables of any kinds, over headers and metadata of any widths.
func (r drawer) schema() api.Schema {
	widths := []int{1, 2, 3, 4, 7, 8, 9, 16, 32, 48, 63, 64, 65, 127, 128}
	var s api.Schema
	var refs []api.Ref
	fields := func(head string, many int) []api.Field {
		var list []api.Field
		for i := range many {
			list = append(list, api.Field{Name: fmt.Sprint("k", many-i), Width: widths[r.Intn(len(widths))]})
			refs = append(refs, ref(head, list[i].Name))
		}
		return list
	}
	for i := range 1 + r.Intn(3) {
		h := api.Header{Name: fmt.Sprint("h", i)}
		h.Fields = fields(h.Name, 1+r.Intn(4))
		sum := 0
		for _, f := range h.Fields {
			sum += f.Width
		}
		s.Headers = append(s.Headers, h)
		if sum%8 > 0 {
			s.Headers[i].Fields = append(h.Fields, api.Field{Name: "pad", Width: 8 - sum%8})
		}
	}
	s.Meta = fields("meta", r.Intn(4))
	for i := range 1 + r.Intn(4) {
		a := api.Action{Name: fmt.Sprint("g", i)}
		for k := range r.Intn(4) {
			a.Params = append(a.Params, api.Field{Name: fmt.Sprint("p", k), Width: widths[r.Intn(len(widths))]})
		}
		s.Actions = append(s.Actions, a)
	}
	for i := range 1 + r.Intn(4) {
		s.Tables = append(s.Tables, r.table(s, fmt.Sprint("t", i), refs))
	}
	return s
}

func (r drawer) table(s api.Schema, name string, refs []api.Ref) api.Table {
	together := [][]int{{api.Exact}, {api.Exact, api.Prefix}, {api.Prefix}, {api.Exact, api.Ternary, api.Range}, {api.Ternary, api.Range}, {api.Ternary}}[r.Intn(6)]
	said := api.Table{Name: name, Size: []int{1, 2, 3, 5, 8, 30}[r.Intn(6)], Fixed: r.Intn(4) == 0}
	for range []int{1, 1, 2, 2, 3, 4, 8}[r.Intn(7)] {
		kind := together[r.Intn(len(together))]
		said.Keys = append(said.Keys, api.Key{Ref: refs[r.Intn(len(refs))], Kind: kind})
		if kind == api.Prefix {
			together = []int{api.Exact}
		}
	}
	for _, i := range r.Perm(len(s.Actions))[:1+r.Intn(len(s.Actions))] {
		said.Actions = append(said.Actions, s.Actions[i].Name)
	}
	said.Default = r.call(s, said)
	return said
}

// call is one that a table can have.
func (r drawer) call(s api.Schema, said api.Table) api.Call {
	a, _ := schema.Action(s, said.Actions[r.Intn(len(said.Actions))])
	c := api.Call{Action: a.Name}
	for _, p := range a.Params {
		c.Args = append(c.Args, r.value(p.Width))
	}
	return c
}

// value is one of a width: one of few.
func (r drawer) value(width int) api.Bits {
	shift := 128 - width
	cut := func(a api.Bits) api.Bits {
		if shift >= 64 {
			return api.Bits{Lo: a.Lo << (shift - 64) >> (shift - 64)}
		}
		return api.Bits{Hi: a.Hi << shift >> shift, Lo: a.Lo}
	}
	switch r.Intn(8) {
	case 0:
		return cut(most)
	case 1:
		return cut(api.Bits{Hi: most.Hi - uint64(r.Intn(2)), Lo: most.Lo - uint64(r.Intn(3))})
	case 2:
		return cut(api.Bits{Hi: uint64(r.Intn(2)), Lo: uint64(r.Intn(3))})
	case 3:
		return cut(api.Bits{Hi: r.Uint64(), Lo: r.Uint64()})
	}
	return cut(n(uint64(r.Intn(4))))
}

// match is one that may be for a part.
func (r drawer) match(kind, width int) api.Match {
	a, b := r.value(width), r.value(width)
	switch kind {
	case api.Prefix:
		bits := []int{0, width, r.Intn(width + 1), r.Intn(width + 1)}[r.Intn(4)]
		gone := width - bits
		if gone >= 64 {
			return api.Match{Value: api.Bits{Hi: a.Hi >> (gone - 64) << (gone - 64)}, Len: bits}
		}
		return api.Match{Value: api.Bits{Hi: a.Hi, Lo: a.Lo >> gone << gone}, Len: bits}
	case api.Ternary:
		return api.Match{Value: api.Bits{Hi: a.Hi & b.Hi, Lo: a.Lo & b.Lo}, Mask: b}
	case api.Range:
		if a.Hi > b.Hi || a.Hi == b.Hi && a.Lo > b.Lo {
			a, b = b, a
		}
		return api.Match{Value: a, Mask: b}
	}
	return api.Match{Value: a}
}

// entry is a right one, often near one of a list, or one of it with another call.
func (r drawer) entry(s api.Schema, said api.Table, list []api.Entry) api.Entry {
	e := api.Entry{Call: r.call(s, said)}
	for _, k := range said.Keys {
		e.Match = append(e.Match, r.match(k.Kind, schema.Width(s, k.Ref)))
	}
	if schema.Kind(said) == api.Ternary {
		e.Priority = []int{1, 1, 2, 3, 3, 1 + r.Intn(api.MaxPriority), api.MaxPriority}[r.Intn(7)]
	}
	if len(list) == 0 || r.Intn(4) == 0 {
		return e
	}
	near := list[r.Intn(len(list))]
	at := r.Intn(len(e.Match) + 2)
	for i := range e.Match {
		if i != at {
			e.Match[i] = near.Match[i]
		}
	}
	if at != len(e.Match) {
		e.Priority = near.Priority
	}
	return e
}

// key is one of a table; most often one of a list hits it, or nearly.
func (r drawer) key(s api.Schema, said api.Table, list []api.Entry) []api.Bits {
	var key []api.Bits
	for _, k := range said.Keys {
		key = append(key, r.value(schema.Width(s, k.Ref)))
	}
	if len(list) == 0 || r.Intn(6) == 0 {
		return key
	}
	e := list[r.Intn(len(list))]
	for i, k := range said.Keys {
		m, a := e.Match[i], key[i]
		switch {
		case k.Kind == api.Ternary:
			key[i] = api.Bits{Hi: a.Hi&^m.Mask.Hi | m.Value.Hi, Lo: a.Lo&^m.Mask.Lo | m.Value.Lo}
		case k.Kind == api.Range && r.Intn(2) == 0:
			key[i] = m.Mask
		case k.Kind == api.Prefix && r.Intn(2) == 0:
			key[i] = r.behind(m, schema.Width(s, k.Ref))
		default:
			key[i] = m.Value
		}
	}
	if r.Intn(6) == 0 {
		at := r.Intn(len(key))
		key[at] = r.value(schema.Width(s, said.Keys[at].Ref))
	}
	return key
}

// behind is a value that has a prefix: bits of chance stand behind it.
func (r drawer) behind(m api.Match, width int) api.Bits {
	a := m.Value
	for bit := range width - m.Len {
		if r.Intn(2) == 0 {
			continue
		}
		if bit < 64 {
			a.Lo |= 1 << bit
		} else {
			a.Hi |= 1 << (bit - 64)
		}
	}
	return a
}

// op is a right operation on a table, most often one that can be done.
func (r drawer) op(s api.Schema, said api.Table, list []api.Entry) api.Op {
	e := r.entry(s, said, list)
	if len(list) > 0 && r.Intn(2) == 0 {
		e.Match, e.Priority = list[r.Intn(len(list))].Match, list[0].Priority
		if at := slices.IndexFunc(list, func(k api.Entry) bool { return slices.Equal(k.Match, e.Match) }); at >= 0 {
			e.Priority = list[at].Priority
		}
	}
	switch r.Intn(20) {
	case 0:
		return clearOf(said.Name)
	case 1, 2:
		return setDefault(said.Name, e.Call)
	case 3, 4, 5, 6:
		return modify(said.Name, e)
	case 7, 8, 9, 10:
		return remove(said.Name, e)
	}
	return insert(said.Name, e)
}

// batch is one whose operations stand on what those ahead of them have done; seldom one is turned into a wrong one.
func (r drawer) batch(m *model) []api.Op {
	var ops []api.Op
	c := m.clone()
	for range []int{1, 1, 2, 3, 5, 9, 64}[r.Intn(7)] {
		at := r.Intn(len(m.s.Tables))
		op := r.op(m.s, m.s.Tables[at], c.held[at].Entries)
		for range 3 {
			if c.clone().one(op) != api.OK && r.Intn(8) > 0 {
				op = r.op(m.s, m.s.Tables[at], c.held[at].Entries)
			}
		}
		if r.Intn(60) == 0 {
			op = r.turned(op)
		}
		c.one(op)
		ops = append(ops, op)
	}
	return ops
}

// turned is an operation in which something is another one.
func (r drawer) turned(op api.Op) api.Op {
	op.Entry = copied(op.Entry)
	switch r.Intn(8) {
	case 0:
		op.Kind = r.Intn(8) - 1
	case 1:
		op.Table = []string{"", "t9", "meta", "h0"}[r.Intn(4)]
	case 2:
		op.Entry.Priority = []int{-1, 0, 1, api.MaxPriority + 1}[r.Intn(4)]
	case 3:
		op.Entry.Call.Action = []string{"", "g0", "g3", "t0"}[r.Intn(4)]
	case 4:
		op.Entry.Call.Args = append(op.Entry.Call.Args, n(1))
	case 5:
		op.Entry.Match = append(op.Entry.Match, api.Match{})
	default:
		for i := range op.Entry.Match {
			op.Entry.Match[i] = []api.Match{{}, {Value: most}, {Mask: most}, {Len: 129}, {Len: -1}, {Value: n(2), Mask: n(1)}}[r.Intn(6)]
		}
	}
	return op
}

// TestDrawn: scripts over all kinds of schemas, held against the model.
func TestDrawn(t *testing.T) {
	r := drawer{rand.New(rand.NewSource(15))}
	refused := map[api.Errno]int{}
	for round := range 120 {
		s := r.schema()
		if e, thing := schema.Check(s); e != api.OK {
			t.Fatalf("not sound: %d %s", e, thing)
		}
		x, m := fresh(t, s), newModel(s)
		for step := range 30 {
			ops := r.batch(m)
			drawnSingles(t, x, m, ops)
			_, code := doBoth(t, x, m, ops)
			refused[code]++
			said := s.Tables[r.Intn(len(s.Tables))]
			_, at, _ := schema.Table(s, said.Name)
			var keys [][]api.Bits
			for range 5 {
				keys = append(keys, r.key(s, said, m.held[at].Entries))
			}
			checkLike(t, x, m, said.Name, keys)
			x = drawnOther(t, r, x, m)
			if t.Failed() {
				t.Fatalf("round %d, step %d: %v", round, step, s.Tables)
			}
		}
	}
	for _, code := range []api.Errno{api.OK, api.ErrOp, api.ErrTable, api.ErrKey, api.ErrPriority, api.ErrAction, api.ErrArgs, api.ErrDup, api.ErrFull, api.ErrAbsent, api.ErrFixed} {
		if refused[code] < 5 {
			t.Errorf("%d was answered %d times", code, refused[code])
		}
	}
}

// drawnSingles holds P15.6 for a batch: it does what its operations do one by one, if none of these is refused, and is refused just where one of them is.
func drawnSingles(t *testing.T, x *tables.Set, m *model, ops []api.Op) {
	t.Helper()
	single, batch := x.Copy(), x.Copy()
	at, code := 0, api.OK
	for i, op := range ops {
		if _, e := single.Do(op); e != api.OK {
			at, code = i, e
			break
		}
	}
	if k, e := batch.Do(ops...); k != at || e != code {
		t.Errorf("one by one %d %d, as a batch %d %d", at, code, k, e)
	}
	if code != api.OK {
		single = x
	}
	checkSame(t, single, batch, true)
}

// drawnOther is now and then another set that holds the same: a copy, or one that was loaded.
func drawnOther(t *testing.T, r drawer, x *tables.Set, m *model) *tables.Set {
	t.Helper()
	other := x
	switch r.Intn(6) {
	case 0:
		other = x.Copy()
		for _, said := range m.s.Tables {
			done(t, x, clearOf(said.Name))
		}
	case 1:
		y, e := tables.Load(x.Schema(), x.All())
		if e != api.OK {
			t.Fatalf("Load: %d", e)
		}
		checkSame(t, x, y, true)
		other = y
	}
	checkHeld(t, "another one", other.All(), m.held)
	return other
}

// TestGreat: as many entries as there may be, in tables of each kind.
func TestGreat(t *testing.T) {
	r := drawer{rand.New(rand.NewSource(16))}
	for _, kinds := range [][]int{{api.Exact, api.Exact}, {api.Exact, api.Prefix}, {api.Prefix, api.Exact}, {api.Ternary, api.Range}} {
		s := api.Schema{Meta: []api.Field{{Name: "a", Width: 16}, {Name: "b", Width: 16}}, Actions: []api.Action{{Name: "g"}, {Name: "f", Params: []api.Field{{Name: "p", Width: 16}}}}}
		said := api.Table{Name: "t", Keys: []api.Key{{Ref: ref("meta", "a"), Kind: kinds[0]}, {Ref: ref("meta", "b"), Kind: kinds[1]}}, Actions: []string{"g", "f"}, Size: api.MaxCapacity, Default: call("g")}
		s.Tables = []api.Table{said}
		x, m := fresh(t, s), newModel(s)
		met := map[string]int{}
		for full := false; !full; {
			e := entry(0, call("f", uint64(len(met))), r.match(kinds[0], 16), r.match(kinds[1], 16))
			for i := range e.Match {
				if kinds[i] == api.Exact {
					e.Match[i].Value = n(uint64(r.Intn(2000)))
				}
			}
			if kinds[0] == api.Ternary {
				e.Priority = 1 + r.Intn(3000)
			}
			want := api.ErrDup
			if text := fmt.Sprint(e.Match, e.Priority); met[text] == 0 && len(met) == api.MaxCapacity {
				full, want = true, api.ErrFull
			} else if met[text] == 0 {
				met[text], want = 1, api.OK
				m.held[0].Entries = append(m.held[0].Entries, e)
			}
			if at, code := x.Do(insert("t", e)); at != 0 || code != want {
				t.Fatalf("%v: %d %d", e, at, code)
			}
		}
		slices.SortFunc(m.held[0].Entries, match.Order)
		checkGreat(t, r, x, m, said)
	}
}

// checkGreat holds a full table of the greatest size against the model.
func checkGreat(t *testing.T, r drawer, x *tables.Set, m *model, said api.Table) {
	t.Helper()
	var keys [][]api.Bits
	for range 10 {
		keys = append(keys, r.key(m.s, said, m.held[0].Entries))
	}
	checkLike(t, x, m, "t", keys)
	more := entry(m.held[0].Entries[0].Priority, call("g"), m.held[0].Entries[0].Match...)
	checkDo(t, x, 0, api.ErrDup, insert("t", more))
	y, e := tables.Load(m.s, m.held)
	if e != api.OK || !y.Same(x) {
		t.Errorf("Load: %d", e)
	}
	for range 500 {
		at := r.Intn(len(m.held[0].Entries))
		gone := m.held[0].Entries[at]
		done(t, x, remove("t", gone))
		if at, code := y.Do(remove("t", gone), insert("t", gone), insert("t", gone)); at != 2 || code != api.ErrDup {
			t.Errorf("%d %d", at, code)
		}
		m.held[0].Entries = slices.Delete(m.held[0].Entries, at, at+1)
	}
	checkLike(t, x, m, "t", keys)
}
