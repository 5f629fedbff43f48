package syntax

import (
	"turnout/api"
	"turnout/lex"
)

// stepSigns are the signs of the operations of a step that sets a field; OpCopy has none.
var stepSigns = [...]struct {
	sign string
	op   int
}{{"+", api.OpAdd}, {"-", api.OpSub}, {"&", api.OpAnd}, {"|", api.OpOr}, {"^", api.OpXor}}

// action reads an action behind its name.
func (r *reader) action(name string) api.Action {
	a := api.Action{Name: name}
	r.inBrackets(func() { a.Params = append(a.Params, r.field()) })
	r.inBraces(func() { a.Steps = append(a.Steps, r.step()) })
	return a
}

func (r *reader) step() api.Step {
	var s api.Step
	switch {
	case r.take("drop"):
		s.Kind = api.StepDrop
	case r.take("add"):
		s = api.Step{Kind: api.StepAdd, To: api.Ref{Head: r.name()}}
	case r.take("remove"):
		s = api.Step{Kind: api.StepRemove, To: api.Ref{Head: r.name()}}
	case r.take("sum"):
		s = api.Step{Kind: api.StepSum, To: r.ref()}
	case r.take("again"):
		s.Kind = api.StepAgain
	default:
		s = r.set()
	}
	r.need(";")
	return s
}

// set reads a step that sets a field, but for its end.
func (r *reader) set() api.Step {
	s := api.Step{Kind: api.StepSet, To: r.ref()}
	r.need("=")
	s.A = r.operand()
	s.Op = opOf(r.ahead().Text)
	if s.Op != api.OpCopy {
		r.word()
		s.B = r.operand()
	}
	return s
}

// opOf is the operation of a sign; of any other word OpCopy.
func opOf(text string) int {
	for _, x := range stepSigns {
		if x.sign == text {
			return x.op
		}
	}
	return api.OpCopy
}

// ref reads the grammar's field: a reference to one.
func (r *reader) ref() api.Ref { return r.refBehind(r.head()) }

// head reads what stands ahead of a reference's point.
func (r *reader) head() string {
	if r.ahead().Text == "meta" {
		return r.word().Text
	}
	return r.name()
}

// refBehind reads the rest of a reference, from its point on.
func (r *reader) refBehind(head string) api.Ref {
	r.need(".")
	return api.Ref{Head: head, Name: r.name()}
}

func (r *reader) operand() api.Operand {
	first := r.ahead()
	if first.Kind == lex.Number {
		return api.Operand{Const: r.number()}
	}
	head := r.head()
	if first.Kind == lex.Name && r.ahead().Text != "." {
		return api.Operand{Ref: api.Ref{Name: head}}
	}
	return api.Operand{Ref: r.refBehind(head)}
}
