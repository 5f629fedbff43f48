package schema_test

import (
	"math/rand"
	"reflect"
	"slices"
	"testing"

	"turnout/api"
	"turnout/schema"
)

// P7.7, P7.8

// soundSchemas hands over drawn sound schemas, each in memory of its own, and the sample.
func soundSchemas(seed int64, count int, f func(r *rand.Rand, s api.Schema)) {
	r := rand.New(rand.NewSource(seed))
	f(r, sample())
	for range count {
		f(r, drawSound(r))
	}
}

// TestLaidBehind: a sound schema with something more that is right stays sound, up to the limit.
func TestLaidBehind(t *testing.T) {
	soundSchemas(7, 300, func(r *rand.Rand, s api.Schema) {
		for i, name := range names("new", 3) {
			s.Headers = append(s.Headers, api.Header{Name: name, Fields: fields(1+r.Intn(32), 8*(1+r.Intn(16)))})
			check(t, "a header", s, api.OK, "")
			s.Meta = append(s.Meta, api.Field{Name: name, Width: 1 + r.Intn(128)})
			check(t, "a field of the metadata", s, api.OK, "")
			s.Actions = append(s.Actions, api.Action{Name: name, Params: fields(r.Intn(9), 16), Steps: []api.Step{{Kind: api.StepRemove, To: ref(name, "")}}})
			check(t, "an action", s, api.OK, "")
			s.Tables = append(s.Tables, api.Table{Name: name, Keys: []api.Key{{Ref: ref("meta", name), Kind: 1 + i}}, Actions: []string{name}, Size: 4096, Default: api.Call{Action: name, Args: make([]api.Bits, len(s.Actions[len(s.Actions)-1].Params))}})
			check(t, "a table", s, api.OK, "")
		}
	})
}

func TestLaidBehindUpToTheLimit(t *testing.T) {
	s := sample()
	header, action, table := api.Header{Fields: fields(1, 8)}, api.Action{}, sample().Tables[0]
	for _, name := range names("new", 80) {
		header.Name, action.Name, table.Name = name, name, name
		if len(s.Headers) < 32 {
			s.Headers = append(s.Headers, header)
		}
		if len(s.Meta) < 32 {
			s.Meta = append(s.Meta, api.Field{Name: name, Width: 1})
		}
		if len(s.Actions) < 64 {
			s.Actions = append(s.Actions, action)
		}
		if len(s.Tables) < 32 {
			s.Tables = append(s.Tables, table)
		}
		check(t, "laid behind the others", s, api.OK, "")
	}
	header.Name, action.Name, table.Name = "z", "z", "z"
	for thing, turn := range map[string]func(*api.Schema){
		"header": func(s *api.Schema) { s.Headers = append(s.Headers, header) },
		"meta":   func(s *api.Schema) { s.Meta = append(s.Meta, api.Field{Name: "z", Width: 1}) },
		"action": func(s *api.Schema) { s.Actions = append(s.Actions, action) },
		"table":  func(s *api.Schema) { s.Tables = append(s.Tables, table) },
	} {
		full := deepCopy(s)
		turn(&full)
		check(t, "one more than may be", full, api.ErrMany, thing)
	}
}

// A renaming says how the headers, states, actions and tables are called.
type renaming struct{ headers, states, actions, tables map[string]string }

// draw is a renaming of a schema: the names that its things have, mixed, and new ones.
func drawRenaming(r *rand.Rand, s api.Schema) renaming {
	other := func(count int, called func(int) string) map[string]string {
		pool := names("new", count)
		for i := range count {
			pool = append(pool, called(i))
		}
		all := map[string]string{}
		for i, j := range r.Perm(len(pool))[:count] {
			all[called(i)] = pool[j]
		}
		return all
	}
	return renaming{
		headers: other(len(s.Headers), func(i int) string { return s.Headers[i].Name }),
		states:  other(len(s.States), func(i int) string { return s.States[i].Name }),
		actions: other(len(s.Actions), func(i int) string { return s.Actions[i].Name }),
		tables:  other(len(s.Tables), func(i int) string { return s.Tables[i].Name }),
	}
}

// call is a thing's other name; what is no thing's name stays.
func call(name *string, others map[string]string) {
	if other, ok := others[*name]; ok {
		*name = other
	}
}

// rename calls a schema's things otherwise, throughout.
func (m renaming) rename(s *api.Schema) {
	for i := range s.Headers {
		call(&s.Headers[i].Name, m.headers)
	}
	for i := range s.States {
		x := &s.States[i]
		call(&x.Name, m.states)
		call(&x.Header, m.headers)
		call(&x.Next, m.states)
		for j := range x.Cases {
			call(&x.Cases[j].Next, m.states)
		}
	}
	for i := range s.Actions {
		call(&s.Actions[i].Name, m.actions)
	}
	for i := range s.Tables {
		x := &s.Tables[i]
		call(&x.Name, m.tables)
		call(&x.Default.Action, m.actions)
		for j := range x.Actions {
			call(&x.Actions[j], m.actions)
		}
	}
	m.renameWithin(reflect.ValueOf(s).Elem())
}

// renameWithin renames references' Heads and stages' Tables.
func (m renaming) renameWithin(v reflect.Value) {
	switch v.Kind() {
	case reflect.Struct:
		switch x := v.Addr().Interface().(type) {
		case *api.Ref:
			call(&x.Head, m.headers)
		case *api.Stage:
			call(&x.Table, m.tables)
		}
		for i := range v.NumField() {
			m.renameWithin(v.Field(i))
		}
	case reflect.Slice:
		for i := range v.Len() {
			m.renameWithin(v.Index(i))
		}
	}
}

func TestCalledOtherwise(t *testing.T) {
	soundSchemas(8, 1000, func(r *rand.Rand, s api.Schema) {
		other := deepCopy(s)
		m := drawRenaming(r, s)
		m.rename(&other)
		check(t, "called otherwise", other, api.OK, "")
		if schema.Meets(other) != schema.Meets(s) || len(schema.Applied(other)) != len(schema.Applied(s)) {
			t.Fatalf("%s", short(other))
		}
	})
}

// TestMeetsAndApplied: of a sound schema Meets is not above the number of Applied's tables; these are unlike tables of it.
func TestMeetsAndApplied(t *testing.T) {
	soundSchemas(9, 5000, func(_ *rand.Rand, s api.Schema) {
		applied := schema.Applied(s)
		if schema.Meets(s) > len(applied) {
			t.Fatalf("Meets %d of %q", schema.Meets(s), applied)
		}
		for i, name := range applied {
			if _, _, ok := schema.Table(s, name); !ok || slices.Contains(applied[:i], name) {
				t.Fatalf("%q of %q", name, applied)
			}
		}
		checkPasses(t, "sound", s)
	})
}

// longest is the most states that a parser goes through from a state on, as far as one more than there are.
func longest(s api.Schema, name string) int {
	here := map[string]bool{name: true}
	for count := range len(s.States) + 1 {
		next := map[string]bool{}
		stands := false
		for _, x := range s.States {
			if !here[x.Name] {
				continue
			}
			stands = true
			next[x.Next] = true
			for _, c := range x.Cases {
				next[c.Next] = true
			}
		}
		if !stands {
			return count
		}
		here = next
	}
	return len(s.States) + 1
}

// TestParserEnds: behind at most as many states as there are.
func TestParserEnds(t *testing.T) {
	soundSchemas(10, 3000, func(_ *rand.Rand, s api.Schema) {
		for _, x := range s.States {
			if got := longest(s, x.Name); got > len(s.States) {
				t.Fatalf("%d of %d states: %s", got, len(s.States), short(s))
			}
		}
	})
	// What drawn ways lead round is told, whichever way.
	r := rand.New(rand.NewSource(11))
	loops := 0
	for range 5000 {
		s := sample()
		s.States = nil
		list := names("s", 1+r.Intn(6))
		for _, name := range list {
			x := api.State{Name: name, Header: "ip", On: ref("ip", "ttl"), Next: append(list, "accept", "accept", "reject")[r.Intn(len(list)+3)]}
			if r.Intn(3) == 0 {
				x.Cases = []api.Case{{Value: n(1), Mask: n(1), Next: list[r.Intn(len(list))]}}
			}
			s.States = append(s.States, x)
		}
		ends := true
		for _, name := range list {
			ends = ends && longest(s, name) <= len(list)
		}
		if e, _ := schema.Check(s); (e == api.OK) != ends || e != api.OK && e != api.ErrLoop {
			t.Fatalf("%d, though it ends is %v: %s", e, ends, short(s))
		}
		if !ends {
			loops++
		}
	}
	if loops < 500 || loops > 4500 {
		t.Errorf("%d of 5000 led round", loops)
	}
}
