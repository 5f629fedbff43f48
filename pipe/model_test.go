package pipe_test

import (
	"fmt"
	"hash/fnv"
	"math/rand"
	"slices"
	"testing"

	"turnout/api"
	"turnout/pipe"
	"turnout/schema"
	"turnout/tables"
	"turnout/wire"
)

// A model does what the chapter's words say, over the whole schema: by calls of package wire, in numbers of any size, and with a list of the stages that are still to be gone through.
type model struct {
	s           api.Schema
	from        pipe.Source
	k           api.Packet
	drop, again bool
	rounds      int
	trace       []api.Hit
}

// operand is an operand's value over the packet, in an action with these arguments.
func (m *model) operand(o api.Operand, a api.Action, args []api.Bits) api.Bits {
	switch {
	case o.Ref == (api.Ref{}):
		return o.Const
	case o.Ref.Head == "":
		return args[slices.IndexFunc(a.Params, func(p api.Field) bool { return p.Name == o.Ref.Name })]
	}
	return wire.Get(m.s, m.k, o.Ref)
}

// do does an action's steps.
func (m *model) do(c api.Call) {
	a, _ := schema.Action(m.s, c.Action)
	for _, x := range a.Steps {
		switch x.Kind {
		case api.StepSet:
			v := worked(x.Op, m.operand(x.A, a, c.Args), m.operand(x.B, a, c.Args), schema.Width(m.s, x.To))
			m.k = wire.Set(m.s, m.k, x.To, v)
		case api.StepAdd:
			m.k = wire.Add(m.s, m.k, x.To.Head)
		case api.StepRemove:
			m.k = wire.Remove(m.s, m.k, x.To.Head)
		case api.StepSum:
			m.k = wire.Sum(m.s, m.k, x.To)
		case api.StepDrop:
			m.drop = true
		case api.StepAgain:
			m.again = true
		}
	}
}

func (m *model) holds(x api.Test) bool {
	if x.Kind == api.TestValid {
		return slices.ContainsFunc(m.k.Heads, func(f api.Filled) bool { return f.Name == x.A.Ref.Head })
	}
	order := number(m.operand(x.A, api.Action{}, nil)).Cmp(number(m.operand(x.B, api.Action{}, nil)))
	return map[int]bool{api.TestEq: order == 0, api.TestNe: order != 0, api.TestLt: order < 0, api.TestLe: order < 1}[x.Kind]
}

// pass goes through the control once.
func (m *model) pass() api.Errno {
	m.rounds++
	todo := m.s.Control
	for len(todo) > 0 {
		x := todo[0]
		todo = todo[1:]
		then := false
		switch x.Kind {
		case api.StageExit:
			return api.OK
		case api.StageIf:
			then = m.holds(x.Test)
		case api.StageApply:
			hit, e := m.ask(x.Table)
			if e != api.OK {
				return e
			}
			then = hit.Found
		}
		if then {
			todo = append(slices.Clone(x.Then), todo...)
		} else {
			todo = append(slices.Clone(x.Else), todo...)
		}
	}
	return api.OK
}

// ask asks a table and does what it answers.
func (m *model) ask(name string) (api.Hit, api.Errno) {
	table, _, _ := schema.Table(m.s, name)
	var key []api.Bits
	for _, part := range table.Keys {
		key = append(key, wire.Get(m.s, m.k, part.Ref))
	}
	hit, e := m.from.Lookup(name, key...)
	if e != api.OK {
		return hit, e
	}
	if e := schema.Call(m.s, name, hit.Call); e != api.OK {
		return hit, e
	}
	m.trace = append(m.trace, hit)
	m.do(hit.Call)
	return hit, api.OK
}

// modelRun is what becomes of a packet.
func modelRun(s api.Schema, from pipe.Source, in []api.Bits, packet string) api.Result {
	k, e := wire.Parse(s, in, packet)
	if e != api.OK {
		return api.Result{Error: e}
	}
	m := &model{s: s, from: from, k: k}
	for m.rounds == 0 || m.again && !m.drop && m.rounds < 4 {
		m.again = false
		if e := m.pass(); e != api.OK {
			return api.Result{Error: e, Rounds: m.rounds, Trace: m.trace}
		}
	}
	if m.drop {
		return api.Result{Drop: true, Meta: m.k.Meta, Rounds: m.rounds, Trace: m.trace}
	}
	out, e := wire.Build(s, m.k)
	if e != api.OK {
		return api.Result{Error: e, Rounds: m.rounds, Trace: m.trace}
	}
	return api.Result{Out: out, Meta: m.k.Meta, Rounds: m.rounds, Trace: m.trace}
}

// checkFollows holds a result against P16.7.
func checkFollows(t *testing.T, s api.Schema, r api.Result) {
	t.Helper()
	if r.Rounds == 0 {
		if !alike(r, api.Result{Error: r.Error}) || r.Error == api.OK {
			t.Errorf("no passes: %s", short(r))
		}
		return
	}
	applied, times := schema.Applied(s), map[string]int{}
	for _, h := range r.Trace {
		times[h.Table]++
		if !slices.Contains(applied, h.Table) || times[h.Table] > r.Rounds {
			t.Errorf("%s stands %d times in the trace of %d passes", h.Table, times[h.Table], r.Rounds)
		}
	}
	if r.Rounds < 1 || r.Rounds > api.MaxRounds || len(r.Trace) > r.Rounds*schema.Meets(s) {
		t.Errorf("%d passes and %d hits, %d a pass", r.Rounds, len(r.Trace), schema.Meets(s))
	}
}

// hashed is a source whose answers hang on the question alone. Of a hundred so many are errors, or calls that the table can't have.
func (d *drawer) hashed(wrong int) source {
	s, seed := d.s, d.Uint64()
	return func(name string, key []api.Bits) (api.Hit, api.Errno) {
		h := fnv.New64a()
		fmt.Fprint(h, seed, name, key)
		own := &drawer{Rand: rand.New(rand.NewSource(int64(h.Sum64()))), s: s}
		table, _, _ := schema.Table(s, name)
		hit := api.Hit{Table: name, Found: own.Intn(2) == 0, Call: own.call(table)}
		if hit.Found {
			hit.Entry = api.Entry{Match: []api.Match{{Value: own.value(128), Len: own.Intn(99)}}, Priority: own.Intn(99), Call: own.call(table)}
		}
		if own.Intn(100) >= wrong {
			return hit, api.OK
		}
		switch own.Intn(4) {
		case 0:
			return hit, api.Errno(own.Intn(300) + 1)
		case 1:
			hit.Call.Action = own.name(own.Intn(6))
		case 2:
			hit.Call.Args = append(hit.Call.Args, own.value(128))
		case 3:
			for i := range hit.Call.Args {
				hit.Call.Args[i] = own.value(128)
			}
		}
		return hit, api.OK
	}
}

// outcome is a result in short.
func outcome(r api.Result) string {
	switch {
	case r.Error != api.OK && r.Rounds == 0:
		return fmt.Sprint("not taken ", int(r.Error))
	case r.Error == api.ErrLong:
		return "too long"
	case r.Error != api.OK:
		return fmt.Sprint("ended in pass ", r.Rounds)
	case r.Drop:
		return fmt.Sprint("dropped in pass ", r.Rounds)
	}
	return fmt.Sprint("sent on behind pass ", r.Rounds)
}

// allOutcomes are those that are to be met.
func allOutcomes() []string {
	list := []string{"not taken 2", "not taken 100", "not taken 101", "not taken 102", "too long"}
	for i := range api.MaxRounds {
		list = append(list, fmt.Sprint("ended in pass ", i+1), fmt.Sprint("dropped in pass ", i+1), fmt.Sprint("sent on behind pass ", i+1))
	}
	return list
}

// TestDrawnRuns: what becomes of packets in drawn schemas, over sources whose answers are drawn, is what the model says.
func TestDrawnRuns(t *testing.T) {
	met := map[string]int{}
	d := &drawer{Rand: rand.New(rand.NewSource(2))}
	for range 1500 {
		d.s = drawSound(d.Rand)
		p := ready(t, d.s)
		from := d.hashed([]int{0, 5, 50}[d.Intn(3)])
		in := d.in()
		var packets []string
		for range 8 {
			packets = append(packets, d.packet())
		}
		for i, r := range p.Many(from, in, packets...) {
			checkResult(t, "drawn", r, modelRun(d.s, from, in, packets[i]))
			checkResult(t, "drawn, alone", p.Run(from, in, packets[i]), r)
			checkFollows(t, d.s, r)
			met[outcome(r)]++
		}
		if t.Failed() {
			t.Fatalf("schema %s", short(d.s))
		}
	}
	for _, what := range allOutcomes() {
		if met[what] < 3 {
			t.Errorf("%s: met %d times", what, met[what])
		}
	}
}

// exactly is an entry that a key hits in its table.
func (d *drawer) exactly(table api.Table, key []api.Bits) api.Entry {
	e := api.Entry{Call: d.call(table)}
	if schema.Kind(table) == api.Ternary {
		e.Priority = 1 + d.Intn(3)
	}
	for i, part := range table.Keys {
		width := schema.Width(d.s, part.Ref)
		m := api.Match{Value: key[i]}
		switch part.Kind {
		case api.Prefix:
			m.Len = width
		case api.Ternary:
			m.Mask = cut(most, width)
		case api.Range:
			m.Mask = key[i]
		}
		e.Match = append(e.Match, m)
	}
	return e
}

// TestDrawnSets: over a set of tables, in which entries are put for keys that were asked: no way ends with an error but ErrLong.
func TestDrawnSets(t *testing.T) {
	met := map[string]int{}
	hits := 0
	d := &drawer{Rand: rand.New(rand.NewSource(3))}
	for range 400 {
		d.s = drawSound(d.Rand)
		p, from := ready(t, d.s), set(t, d.s, nil)
		for range 12 {
			in, packet := d.in(), d.packet()
			notes := source(func(name string, key []api.Bits) (api.Hit, api.Errno) {
				h, e := from.Lookup(name, key...)
				if table, _, _ := schema.Table(d.s, name); !h.Found && d.Intn(2) == 0 {
					from.Do(api.Op{Kind: api.Insert, Table: name, Entry: d.exactly(table, key)})
				}
				return h, e
			})
			p.Run(notes, in, packet)
			r := p.Run(from, in, packet)
			checkResult(t, "over a set", r, modelRun(d.s, from, in, packet))
			checkFollows(t, d.s, r)
			if r.Rounds > 0 && r.Error != api.OK && r.Error != api.ErrLong {
				t.Errorf("it ends with %d", r.Error)
			}
			for _, h := range r.Trace {
				if h.Found {
					hits++
				}
			}
			met[outcome(r)]++
		}
		if t.Failed() {
			t.Fatalf("schema %s", short(d.s))
		}
	}
	if hits < 1000 || len(met) < 12 {
		t.Errorf("%d hits, %v", hits, met)
	}
}

// TestDrawnActs: each action of drawn schemas, over drawn packets, does what the model does; what it leaves is right.
func TestDrawnActs(t *testing.T) {
	d := &drawer{Rand: rand.New(rand.NewSource(4))}
	for range 1500 {
		d.s = drawSound(d.Rand)
		p := ready(t, d.s)
		for _, a := range d.s.Actions {
			for range 4 {
				checkLikeModel(t, p, d.s, api.Call{Action: a.Name, Args: d.values(a.Params)}, d.taken())
			}
		}
		if t.Failed() {
			t.Fatalf("schema %s", short(d.s))
		}
	}
}

// checkLikeModel holds an action against the model.
func checkLikeModel(t *testing.T, p *pipe.Pipe, s api.Schema, c api.Call, k api.Packet) {
	t.Helper()
	m := &model{s: s, k: k}
	m.do(c)
	checkAct(t, p, c, k, m.k, m.drop, m.again)
	if got, _, _, _ := p.Act(c, k); wire.Right(s, got) != api.OK {
		t.Errorf("%s leaves what is not right: %s", short(c), short(got))
	}
}

// tiny is a schema without actions, for all small ones.
func tiny(t *testing.T) api.Schema {
	return schemaOf(t, "header a { x: 8; c: 16; y: 8; } header b { x: 8; c: 16; y: 8; } meta { m: 8; w: 16; }")
}

// smallSteps are steps of tiny, in actions with a parameter p of 8 bits.
func smallSteps() []api.Step {
	list := []api.Step{
		{Kind: api.StepDrop}, {Kind: api.StepAgain},
		{Kind: api.StepAdd, To: ref("a", "")}, {Kind: api.StepAdd, To: ref("b", "")},
		{Kind: api.StepRemove, To: ref("a", "")}, {Kind: api.StepRemove, To: ref("b", "")},
		{Kind: api.StepSum, To: ref("a", "c")}, {Kind: api.StepSum, To: ref("b", "c")},
	}
	for i, pair := range [][2]api.Ref{
		{ref("a", "x"), ref("b", "x")}, {ref("b", "x"), ref("", "p")}, {ref("meta", "m"), ref("a", "x")},
		{ref("b", "y"), ref("meta", "m")}, {ref("a", "y"), ref("a", "y")}, {ref("meta", "m"), ref("", "p")},
	} {
		step := api.Step{Kind: api.StepSet, To: pair[0], Op: i % 6, A: api.Operand{Ref: pair[1]}}
		if step.Op != api.OpCopy {
			step.B = api.Operand{Const: n(77)}
		}
		list = append(list, step)
	}
	return append(list, api.Step{Kind: api.StepSet, To: ref("meta", "w"), A: api.Operand{Ref: ref("b", "c")}})
}

// TestSmallActions: all actions of up to three of these steps, over a packet with each choice of headers.
func TestSmallActions(t *testing.T) {
	var lists [][]api.Step
	steps := smallSteps()
	lists = append(lists, nil)
	for _, a := range steps {
		lists = append(lists, []api.Step{a})
		for _, b := range steps {
			lists = append(lists, []api.Step{a, b})
			for _, c := range steps {
				lists = append(lists, []api.Step{a, b, c})
			}
		}
	}
	for some := range slices.Chunk(lists, api.MaxActions) {
		s := tiny(t)
		for i, list := range some {
			s.Actions = append(s.Actions, api.Action{Name: fmt.Sprint("f", i), Params: []api.Field{{Name: "p", Width: 8}}, Steps: list})
		}
		p, plain := ready(t, s), s
		for _, a := range s.Actions {
			plain.Actions = []api.Action{a}
			for i := range 4 {
				k := api.Packet{Meta: ns(5, 6), Rest: "r"}
				if i&1 != 0 {
					k.Heads = append(k.Heads, head("a", 1, 2, 3))
				}
				if i&2 != 0 {
					k.Heads = append(k.Heads, head("b", 4, 0x1234, 200))
				}
				checkLikeModel(t, p, plain, call(a.Name, 99), k)
			}
			if t.Failed() {
				t.Fatalf("%s", short(a))
			}
		}
	}
}

// controls are all lists of so many stages, all together; the tables and the tests are none yet.
func controls(count int) [][]api.Stage {
	if count == 0 {
		return [][]api.Stage{nil}
	}
	var out [][]api.Stage
	for _, rest := range controls(count - 1) {
		out = append(out, append([]api.Stage{{Kind: api.StageExit}}, rest...))
	}
	for within := range count {
		for first := range within + 1 {
			for _, then := range controls(first) {
				for _, other := range controls(within - first) {
					for _, rest := range controls(count - 1 - within) {
						for _, kind := range []int{api.StageApply, api.StageIf} {
							out = append(out, append([]api.Stage{{Kind: kind, Then: then, Else: other}}, rest...))
						}
					}
				}
			}
		}
	}
	return out
}

// named is a copy of the stages, in which each has a table, or a test, of its own.
func named(list []api.Stage, tables, tests *int) []api.Stage {
	var out []api.Stage
	for _, x := range list {
		switch x.Kind {
		case api.StageApply:
			x.Table = fmt.Sprint("t", *tables)
			*tables++
		case api.StageIf:
			x.Test = api.Test{Kind: api.TestLt, A: api.Operand{Ref: ref("meta", fmt.Sprint("m", *tests))}, B: api.Operand{Const: n(1)}}
			*tests++
		}
		x.Then, x.Else = named(x.Then, tables, tests), named(x.Else, tables, tests)
		out = append(out, x)
	}
	return out
}

// TestSmallControls: all controls of up to four stages, with each choice of the answers that are found, and of the tests that hold; the first pass and a second one.
func TestSmallControls(t *testing.T) {
	text := "meta { m0: 8; m1: 8; m2: 8; m3: 8; } action f() { } action g() { again; meta.m0 = 1 - meta.m0; } "
	for i := range 4 {
		text += fmt.Sprintf("table t%d { key meta.m0 exact; can f, g; size 1; default f(); } ", i)
	}
	s := schemaOf(t, text)
	for count := range 5 {
		for _, list := range controls(count) {
			tables, tests := 0, 0
			s.Control = named(list, &tables, &tests)
			p := ready(t, s)
			for choice := range 1 << (tables + tests) {
				from := source(func(name string, key []api.Bits) (api.Hit, api.Errno) {
					i := int(name[1] - '0')
					hit := api.Hit{Table: name, Found: choice>>i&1 != 0, Call: call("f")}
					if i == 0 && key[0].Lo == 0 {
						hit.Call = call("g")
					}
					return hit, api.OK
				})
				var in []api.Bits
				for i := range tests {
					in = append(in, n(uint64(choice>>(tables+i)&1)))
				}
				r := p.Run(from, in, "")
				checkResult(t, "small", r, modelRun(s, from, in, ""))
				checkFollows(t, s, r)
			}
			if t.Failed() {
				t.Fatalf("%s", short(s.Control))
			}
		}
	}
}

// TestSetsSideBySide: a set of tables may be asked by all packets at a time.
func TestSetsSideBySide(t *testing.T) {
	d := &drawer{Rand: rand.New(rand.NewSource(5))}
	for range 20 {
		d.s = drawSound(d.Rand)
		p := ready(t, d.s)
		var from *tables.Set = set(t, d.s, nil)
		var packets []string
		for range 200 {
			packets = append(packets, d.packet())
		}
		for i, r := range p.Many(from, nil, packets...) {
			checkResult(t, "side by side", r, modelRun(d.s, from, nil, packets[i]))
		}
	}
}
