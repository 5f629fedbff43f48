package print

import "turnout/api"

// stepSigns are the signs of the operations of a step that sets a field; OpCopy has none.
var stepSigns = [...]string{api.OpAdd: "+", api.OpSub: "-", api.OpAnd: "&", api.OpOr: "|", api.OpXor: "^"}

func (p *printer) action(a api.Action) {
	p.line("action ", a.Name, "(", joined(a.Params, fieldText), ") {")
	each(a.Steps, p.step)
	p.line("}")
}

func (p *printer) step(s api.Step) {
	switch s.Kind {
	case api.StepSet:
		p.set(s)
	case api.StepDrop:
		p.line("drop;")
	case api.StepAdd:
		p.line("add ", s.To.Head, ";")
	case api.StepRemove:
		p.line("remove ", s.To.Head, ";")
	case api.StepSum:
		p.line("sum ", refText(s.To), ";")
	case api.StepAgain:
		p.line("again;")
	}
}

// set writes a step that sets a field.
func (p *printer) set(s api.Step) {
	with := ""
	if s.Op != api.OpCopy {
		with = " " + stepSigns[s.Op] + " " + operandText(s.B)
	}
	p.line(refText(s.To), " = ", operandText(s.A), with, ";")
}
