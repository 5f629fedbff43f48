package schema

import (
	"slices"
	"strings"

	"turnout/api"
)

// Copy is a schema in new memory.
func Copy(s api.Schema) api.Schema {
	return api.Schema{
		Headers: each(s.Headers, copyHeader),
		Meta:    each(s.Meta, copyField),
		States:  each(s.States, copyState),
		Actions: each(s.Actions, copyAction),
		Tables:  each(s.Tables, copyTable),
		Control: each(s.Control, copyStage),
	}
}

// each is a new list, of a copy of each thing of a list.
func each[T any](list []T, copied func(T) T) []T {
	if len(list) == 0 {
		return nil
	}
	out := make([]T, len(list))
	for i, thing := range list {
		out[i] = copied(thing)
	}
	return out
}

func copyField(f api.Field) api.Field {
	f.Name = strings.Clone(f.Name)
	return f
}

func copyHeader(h api.Header) api.Header {
	h.Name = strings.Clone(h.Name)
	h.Fields = each(h.Fields, copyField)
	return h
}

func copyRef(r api.Ref) api.Ref {
	return api.Ref{Head: strings.Clone(r.Head), Name: strings.Clone(r.Name)}
}

func copyCase(c api.Case) api.Case {
	c.Next = strings.Clone(c.Next)
	return c
}

func copyState(s api.State) api.State {
	s.Name = strings.Clone(s.Name)
	s.Header = strings.Clone(s.Header)
	s.On = copyRef(s.On)
	s.Cases = each(s.Cases, copyCase)
	s.Next = strings.Clone(s.Next)
	return s
}

func copyOperand(o api.Operand) api.Operand {
	o.Ref = copyRef(o.Ref)
	return o
}

func copyStep(s api.Step) api.Step {
	s.To = copyRef(s.To)
	s.A = copyOperand(s.A)
	s.B = copyOperand(s.B)
	return s
}

func copyAction(a api.Action) api.Action {
	a.Name = strings.Clone(a.Name)
	a.Params = each(a.Params, copyField)
	a.Steps = each(a.Steps, copyStep)
	return a
}

func copyKey(k api.Key) api.Key {
	k.Ref = copyRef(k.Ref)
	return k
}

func copyTable(t api.Table) api.Table {
	t.Name = strings.Clone(t.Name)
	t.Keys = each(t.Keys, copyKey)
	t.Actions = each(t.Actions, strings.Clone)
	t.Default.Action = strings.Clone(t.Default.Action)
	t.Default.Args = append([]api.Bits(nil), t.Default.Args...)
	return t
}

func copyStage(s api.Stage) api.Stage {
	s.Table = strings.Clone(s.Table)
	s.Test.A = copyOperand(s.Test.A)
	s.Test.B = copyOperand(s.Test.B)
	s.Then = each(s.Then, copyStage)
	s.Else = each(s.Else, copyStage)
	return s
}

// Same tells whether two schemas are the same.
func Same(a, b api.Schema) bool {
	return slices.EqualFunc(a.Headers, b.Headers, sameHeader) &&
		slices.Equal(a.Meta, b.Meta) &&
		slices.EqualFunc(a.States, b.States, sameState) &&
		slices.EqualFunc(a.Actions, b.Actions, sameAction) &&
		slices.EqualFunc(a.Tables, b.Tables, sameTable) &&
		slices.EqualFunc(a.Control, b.Control, sameStage)
}

func sameHeader(a, b api.Header) bool {
	return a.Name == b.Name && slices.Equal(a.Fields, b.Fields)
}

func sameState(a, b api.State) bool {
	return a.Name == b.Name && a.Header == b.Header && a.On == b.On &&
		slices.Equal(a.Cases, b.Cases) && a.Next == b.Next
}

func sameAction(a, b api.Action) bool {
	return a.Name == b.Name && slices.Equal(a.Params, b.Params) && slices.Equal(a.Steps, b.Steps)
}

func sameTable(a, b api.Table) bool {
	return a.Name == b.Name && slices.Equal(a.Keys, b.Keys) && slices.Equal(a.Actions, b.Actions) &&
		a.Size == b.Size && sameCall(a.Default, b.Default) && a.Fixed == b.Fixed
}

func sameCall(a, b api.Call) bool {
	return a.Action == b.Action && slices.Equal(a.Args, b.Args)
}

func sameStage(a, b api.Stage) bool {
	return a.Kind == b.Kind && a.Table == b.Table && a.Test == b.Test &&
		slices.EqualFunc(a.Then, b.Then, sameStage) && slices.EqualFunc(a.Else, b.Else, sameStage)
}
