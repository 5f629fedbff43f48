package schema_test

import (
	"slices"
	"testing"

	"turnout/api"
)

// P7.2: which error comes first.

// spoils are wrongs of the sample, in the chapter's order.
func spoils() []turned {
	return slices.Concat(spoiledHeaders(), spoiledMeta(), spoiledStates(), spoiledActions(), spoiledSets(), spoiledTables(), spoiledControl())
}

func spoiledHeaders() []turned {
	list := []turned{{"33 headers", func(s *api.Schema) {
		for _, name := range names("more", 33) {
			s.Headers = append(s.Headers, api.Header{Name: name, Fields: fields(1, 8)})
		}
	}, api.ErrMany, "header"}}
	first := func(s *api.Schema) *api.Header { return &s.Headers[0] }
	second := func(s *api.Schema) *api.Header { return &s.Headers[1] }
	list = append(list, turned{"the first header's name", func(s *api.Schema) { first(s).Name = "Eth" }, api.ErrName, "header Eth"})
	list = append(list, spoiledFields(first, "header eth")...)
	list = append(list, turned{"the second header's name", func(s *api.Schema) { second(s).Name = "Ip" }, api.ErrName, "header Ip"})
	list = append(list, turned{"the second header is called as the first one", func(s *api.Schema) { second(s).Name = "eth" }, api.ErrTwice, "header eth"})
	return append(list, spoiledFields(second, "header ip")...)
}

// spoiledFields are the wrongs of one header's fields.
func spoiledFields(of func(*api.Schema) *api.Header, thing string) []turned {
	return []turned{
		{"no field", func(s *api.Schema) { of(s).Fields = nil }, api.ErrMany, thing},
		{"33 fields", func(s *api.Schema) { of(s).Fields = fields(33, 8) }, api.ErrMany, thing},
		{"a first field's name", func(s *api.Schema) { of(s).Fields[0].Name = "1" }, api.ErrName, thing},
		{"a first field's width", func(s *api.Schema) { of(s).Fields[0].Width = 0 }, api.ErrBits, thing},
		{"a second field's name", func(s *api.Schema) { of(s).Fields[1].Name = "" }, api.ErrName, thing},
		{"a second field as the first", func(s *api.Schema) { of(s).Fields[1].Name = of(s).Fields[0].Name }, api.ErrTwice, thing},
		{"a second field's width", func(s *api.Schema) { of(s).Fields[1].Width = 129 }, api.ErrBits, thing},
		{"a third field as the first", func(s *api.Schema) { of(s).Fields[2].Name = of(s).Fields[0].Name }, api.ErrTwice, thing},
		{"half a byte", func(s *api.Schema) { of(s).Fields[2].Width = 12 }, api.ErrBits, thing},
	}
}

func spoiledMeta() []turned {
	return []turned{
		{"33 fields of the metadata", func(s *api.Schema) { s.Meta = fields(33, 8) }, api.ErrMany, "meta"},
		{"the metadata's first name", func(s *api.Schema) { s.Meta[0].Name = "Port" }, api.ErrName, "meta"},
		{"the metadata's first width", func(s *api.Schema) { s.Meta[0].Width = -9 }, api.ErrBits, "meta"},
		{"the metadata's second name", func(s *api.Schema) { s.Meta[1].Name = "table" }, api.ErrName, "meta"},
		{"metadata twice", func(s *api.Schema) { s.Meta[1].Name = s.Meta[0].Name }, api.ErrTwice, "meta"},
		{"the metadata's second width", func(s *api.Schema) { s.Meta[1].Width = 129 }, api.ErrBits, "meta"},
	}
}

func spoiledStates() []turned {
	first := func(s *api.Schema) *api.State { return &s.States[0] }
	second := func(s *api.Schema) *api.State { return &s.States[1] }
	third := func(s *api.Schema) *api.State { return &s.States[2] }
	return []turned{
		{"33 states", func(s *api.Schema) { s.States = append(s.States, make([]api.State, 30)...) }, api.ErrMany, "state"},
		{"the first state's name", func(s *api.Schema) { first(s).Name = "" }, api.ErrName, "state "},
		{"the first state's header", func(s *api.Schema) { first(s).Header = "tcp" }, api.ErrUnknown, "state first"},
		{"the first state's On", func(s *api.Schema) { first(s).On = ref("eth", "ttl") }, api.ErrUnknown, "state first"},
		{"33 cases", func(s *api.Schema) { first(s).Cases = make([]api.Case, 33) }, api.ErrMany, "state first"},
		{"cases without On", func(s *api.Schema) { first(s).On = api.Ref{} }, api.ErrKind, "state first"},
		{"the first case's mask", func(s *api.Schema) { first(s).Cases[0].Mask = n(0x1ffff) }, api.ErrBits, "state first"},
		{"the first case's value", func(s *api.Schema) { first(s).Cases[0] = api.Case{Value: n(0x800), Mask: n(0xff), Next: "x"} }, api.ErrBits, "state first"},
		{"the first case's next", func(s *api.Schema) { first(s).Cases[0].Next = "x" }, api.ErrUnknown, "state first"},
		{"the second case's value", func(s *api.Schema) { first(s).Cases[1].Value, first(s).Cases[1].Mask = n(1), n(0xf0) }, api.ErrBits, "state first"},
		{"the second case as the first", func(s *api.Schema) {
			first(s).Cases[1].Value, first(s).Cases[1].Mask = first(s).Cases[0].Value, first(s).Cases[0].Mask
		}, api.ErrTwice, "state first"},
		{"the second case's next", func(s *api.Schema) { first(s).Cases[1].Next = "x" }, api.ErrUnknown, "state first"},
		{"the first state's next", func(s *api.Schema) { first(s).Next = "" }, api.ErrUnknown, "state first"},
		{"the second state's name", func(s *api.Schema) { first(s).Cases[0].Next, second(s).Name = "accept", "Second" }, api.ErrName, "state Second"},
		{"the second state is called as the first one", func(s *api.Schema) { first(s).Cases[0].Next, second(s).Name = "accept", "first" }, api.ErrTwice, "state first"},
		{"the second state's next", func(s *api.Schema) { second(s).Next = "x" }, api.ErrUnknown, "state second"},
		{"the third state's On", func(s *api.Schema) { third(s).On = ref("", "port") }, api.ErrUnknown, "state third"},
		{"a loop from the first state on", func(s *api.Schema) { second(s).Next, third(s).Next = "third", "first" }, api.ErrLoop, "state first"},
		{"a loop of the second state", func(s *api.Schema) { second(s).Next = "second" }, api.ErrLoop, "state second"},
		{"a loop of the third state", func(s *api.Schema) { third(s).Next = "third" }, api.ErrLoop, "state third"},
	}
}

func spoiledActions() []turned {
	first := func(s *api.Schema) *api.Action { return &s.Actions[0] }
	return []turned{
		{"65 actions", func(s *api.Schema) { s.Actions = append(s.Actions, make([]api.Action, 61)...) }, api.ErrMany, "action"},
		{"the first action's name", func(s *api.Schema) { first(s).Name = "Out" }, api.ErrName, "action Out"},
		{"9 parameters", func(s *api.Schema) { first(s).Params = make([]api.Field, 9) }, api.ErrMany, "action out"},
		{"33 steps", func(s *api.Schema) { first(s).Steps = make([]api.Step, 33) }, api.ErrMany, "action out"},
		{"the first parameter's name", func(s *api.Schema) { first(s).Params[0].Name = "P" }, api.ErrName, "action out"},
		{"the first parameter's width", func(s *api.Schema) { first(s).Params[0].Width = 0 }, api.ErrBits, "action out"},
		{"a parameter twice", func(s *api.Schema) { first(s).Params = []api.Field{{Name: "p", Width: 9}, {Name: "p"}} }, api.ErrTwice, "action out"},
		{"the last parameter's width", func(s *api.Schema) { first(s).Params = []api.Field{{Name: "p", Width: 9}, {Name: "r"}} }, api.ErrBits, "action out"},
		{"the first step's kind", func(s *api.Schema) { first(s).Steps[0].Kind = 7 }, api.ErrKind, "action out"},
		{"the first step's To", func(s *api.Schema) { first(s).Steps[0].To.Name = "x" }, api.ErrUnknown, "action out"},
		{"the first step's A", func(s *api.Schema) { first(s).Steps[0].A.Ref.Name = "x" }, api.ErrUnknown, "action out"},
		{"the first step's width", func(s *api.Schema) { first(s).Steps[0].A = at("ip", "ttl") }, api.ErrBits, "action out"},
		{"the second action is called as the first one", func(s *api.Schema) { s.Actions[1].Name = "out" }, api.ErrTwice, "action out"},
	}
}

// spoiledSets are the wrongs of the second action's steps; the errors of all are told of `action hop`.
func spoiledSets() []turned {
	one := func(s *api.Schema) *api.Step { return &s.Actions[1].Steps[1] }
	sum := func(s *api.Schema) *api.Step { return &s.Actions[1].Steps[3] }
	return []turned{
		{"a set's Op", func(s *api.Schema) { one(s).Op = 6 }, api.ErrKind, "action hop"},
		{"a set that is not well made", func(s *api.Schema) { one(s).B.Const = n(1) }, api.ErrKind, "action hop"},
		{"a set's To", func(s *api.Schema) { one(s).To = ref("", "d") }, api.ErrUnknown, "action hop"},
		{"a set's A", func(s *api.Schema) { one(s).A = at("", "p") }, api.ErrUnknown, "action hop"},
		{"a set's B", func(s *api.Schema) { one(s).B = at("eth", "") }, api.ErrUnknown, "action hop"},
		{"a set's A's width", func(s *api.Schema) { one(s).A = num(1 << 48) }, api.ErrBits, "action hop"},
		{"a set's B's width", func(s *api.Schema) { one(s).B = at("", "m") }, api.ErrBits, "action hop"},
		{"a sum with an A", func(s *api.Schema) { sum(s).A = num(1) }, api.ErrKind, "action hop"},
		{"a sum of metadata", func(s *api.Schema) { sum(s).To = ref("meta", "port") }, api.ErrUnknown, "action hop"},
		{"a sum of 8 bits", func(s *api.Schema) { sum(s).To.Name = "ttl" }, api.ErrBits, "action hop"},
		{"a drop of something", func(s *api.Schema) { s.Actions[2].Steps[0].To.Head = "ip" }, api.ErrKind, "action none"},
		{"an added field", func(s *api.Schema) { s.Actions[3].Steps[0].To.Name = "a" }, api.ErrKind, "action grow"},
		{"an added header", func(s *api.Schema) { s.Actions[3].Steps[0].To.Head = "tcp" }, api.ErrUnknown, "action grow"},
		{"a removed header", func(s *api.Schema) { s.Actions[3].Steps[1].To.Head = "tcp" }, api.ErrUnknown, "action grow"},
	}
}

func spoiledTables() []turned {
	first := func(s *api.Schema) *api.Table { return &s.Tables[0] }
	return []turned{
		{"33 tables", func(s *api.Schema) { s.Tables = append(s.Tables, make([]api.Table, 30)...) }, api.ErrMany, "table"},
		{"the first table's name", func(s *api.Schema) { first(s).Name = "Route" }, api.ErrName, "table Route"},
		{"no key", func(s *api.Schema) { first(s).Keys = nil }, api.ErrMany, "table route"},
		{"9 keys", func(s *api.Schema) { first(s).Keys = make([]api.Key, 9) }, api.ErrMany, "table route"},
		{"the first key's field", func(s *api.Schema) { first(s).Keys[0].Ref.Name = "x" }, api.ErrUnknown, "table route"},
		{"the first key's kind", func(s *api.Schema) { first(s).Keys[0].Kind = 0 }, api.ErrKind, "table route"},
		{"a prefix beside a ternary", func(s *api.Schema) { first(s).Keys[1].Kind = api.Ternary }, api.ErrKind, "table route"},
		{"the second key's field", func(s *api.Schema) { first(s).Keys[1].Ref.Head = "x" }, api.ErrUnknown, "table route"},
		{"a second prefix", func(s *api.Schema) { first(s).Keys[1].Kind = api.Prefix }, api.ErrKind, "table route"},
		{"no action", func(s *api.Schema) { first(s).Actions = nil }, api.ErrMany, "table route"},
		{"65 actions", func(s *api.Schema) { first(s).Actions = make([]string, 65) }, api.ErrMany, "table route"},
		{"the first action", func(s *api.Schema) { first(s).Actions[0] = "x" }, api.ErrUnknown, "table route"},
		{"an action twice", func(s *api.Schema) { first(s).Actions[1] = first(s).Actions[0] }, api.ErrTwice, "table route"},
		{"the last action", func(s *api.Schema) { first(s).Actions[2] = "x" }, api.ErrUnknown, "table route"},
		{"the size", func(s *api.Schema) { first(s).Size = 0 }, api.ErrMany, "table route"},
		{"the default's action", func(s *api.Schema) { first(s).Default.Action = "grow" }, api.ErrAction, "table route"},
		{"the default's arguments", func(s *api.Schema) { first(s).Default.Args = make([]api.Bits, 3) }, api.ErrArgs, "table route"},
		{"the second table is called as the first one", func(s *api.Schema) { s.Tables[1].Name = "route" }, api.ErrTwice, "table route"},
		{"the second table's default", func(s *api.Schema) { s.Tables[1].Default.Args = nil }, api.ErrArgs, "table acl"},
		{"the third table's key", func(s *api.Schema) { s.Tables[2].Keys[0].Kind = 5 }, api.ErrKind, "table mac"},
	}
}

func spoiledControl() []turned {
	first := func(s *api.Schema) *api.Stage { return &s.Control[0] }
	route := func(s *api.Schema) *api.Stage { return &s.Control[0].Then[0] }
	less := func(s *api.Schema) *api.Test { return &s.Control[0].Else[0].Test }
	return []turned{
		{"129 stages", func(s *api.Schema) { s.Control = append(s.Control, make([]api.Stage, 129)...) }, api.ErrMany, "control"},
		{"9 deep", func(s *api.Schema) { s.Control = append(s.Control, nested(9, exit(), inElse)) }, api.ErrDeep, "control"},
		{"the first stage's kind", func(s *api.Schema) { first(s).Kind = 4 }, api.ErrKind, "control"},
		{"the first stage's header", func(s *api.Schema) { first(s).Test.A.Ref.Head = "x" }, api.ErrUnknown, "control"},
		{"a stage's test that it may not have", func(s *api.Schema) { route(s).Test.Kind = 1 }, api.ErrKind, "control"},
		{"a stage's table", func(s *api.Schema) { route(s).Table = "x" }, api.ErrUnknown, "control"},
		{"a table within itself", func(s *api.Schema) { route(s).Then[0].Table = "route" }, api.ErrTwice, "control"},
		{"an exit with a table", func(s *api.Schema) { route(s).Else[0].Table = "mac" }, api.ErrKind, "control"},
		{"a test's kind", func(s *api.Schema) { less(s).Kind = 6 }, api.ErrKind, "control"},
		{"a test that is not well made", func(s *api.Schema) { less(s).A.Const = n(1) }, api.ErrKind, "control"},
		{"a test's A", func(s *api.Schema) { less(s).A.Ref.Name = "x" }, api.ErrUnknown, "control"},
		{"a test's B", func(s *api.Schema) { less(s).B = at("", "port") }, api.ErrUnknown, "control"},
		{"a test's width", func(s *api.Schema) { less(s).B = num(512) }, api.ErrBits, "control"},
		{"the next stage's fields", func(s *api.Schema) { s.Control[1].Test.B = at("meta", "x") }, api.ErrUnknown, "control"},
		{"the next stage's widths", func(s *api.Schema) { s.Control[1].Test.B = at("ip", "ttl") }, api.ErrBits, "control"},
		{"a table again", func(s *api.Schema) { s.Control[1].Then[0].Table = "acl" }, api.ErrTwice, "control"},
		{"the last stage's kind", func(s *api.Schema) { s.Control[2].Kind = 0 }, api.ErrKind, "control"},
	}
}

// TestEachWrong: each by itself.
func TestEachWrong(t *testing.T) { checkTurned(t, spoils()) }

// TestTheFirstWrong: of each two of them the one that the chapter names first.
func TestTheFirstWrong(t *testing.T) {
	list := spoils()
	for i, one := range list {
		for _, later := range list[i+1:] {
			s := sample()
			later.turn(&s)
			one.turn(&s)
			check(t, one.what+", beside: "+later.what, s, one.code, one.thing)
		}
	}
}

// TestAllWrong: all at once, from each of them on.
func TestAllWrong(t *testing.T) {
	list := spoils()
	for i, one := range list {
		s := sample()
		for _, later := range slices.Backward(list[i:]) {
			later.turn(&s)
		}
		check(t, one.what+", and all later ones", s, one.code, one.thing)
	}
}
