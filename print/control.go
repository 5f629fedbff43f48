package print

import "turnout/api"

// testSigns are the signs of the tests that hold two operands against each other.
var testSigns = [...]string{api.TestEq: "==", api.TestNe: "!=", api.TestLt: "<", api.TestLe: "<="}

func (p *printer) control() {
	p.line("control {")
	each(p.schema.Control, p.stage)
	p.line("}")
}

func (p *printer) stage(s api.Stage) {
	switch s.Kind {
	case api.StageApply:
		p.apply(s)
	case api.StageIf:
		p.blocks("if "+testText(s.Test), s)
	case api.StageExit:
		p.line("exit;")
	}
}

// apply writes a stage that asks a table; the short form says as much as one with two empty blocks.
func (p *printer) apply(s api.Stage) {
	if len(s.Then) == 0 && len(s.Else) == 0 {
		p.line("apply ", s.Table, ";")
		return
	}
	p.blocks("apply "+s.Table, s)
}

// blocks writes the stages within a stage, behind the words with which it begins.
func (p *printer) blocks(begin string, s api.Stage) {
	p.line(begin, " {")
	each(s.Then, p.stage)
	if len(s.Else) > 0 {
		p.line("} else {")
		each(s.Else, p.stage)
	}
	p.line("}")
}

func testText(t api.Test) string {
	if t.Kind == api.TestValid {
		return "valid " + t.A.Ref.Head
	}
	return operandText(t.A) + " " + testSigns[t.Kind] + " " + operandText(t.B)
}
