package syntax

import "turnout/api"

// testSigns are the signs of the tests that hold two operands against each other.
var testSigns = [...]struct {
	sign string
	kind int
}{{"==", api.TestEq}, {"!=", api.TestNe}, {"<", api.TestLt}, {"<=", api.TestLe}}

// stages reads the control's stages, or those of a block.
func (r *reader) stages() []api.Stage {
	var list []api.Stage
	r.inBraces(func() { list = append(list, r.stage()) })
	return list
}

func (r *reader) stage() api.Stage {
	first := r.word()
	switch first.Text {
	case "apply":
		s := api.Stage{Kind: api.StageApply, Table: r.name()}
		if r.take(";") {
			return s
		}
		return r.withBlocks(s)
	case "if":
		return r.withBlocks(api.Stage{Kind: api.StageIf, Test: r.test()})
	case "exit":
		r.need(";")
		return api.Stage{Kind: api.StageExit}
	}
	refuse(first)
	return api.Stage{}
}

// withBlocks is a stage with the blocks that stand behind it.
func (r *reader) withBlocks(s api.Stage) api.Stage {
	s.Then = r.stages()
	if r.take("else") {
		s.Else = r.stages()
	}
	return s
}

func (r *reader) test() api.Test {
	if r.take("valid") {
		return api.Test{Kind: api.TestValid, A: api.Operand{Ref: api.Ref{Head: r.name()}}}
	}
	t := api.Test{A: r.operand()}
	sign := r.word()
	for _, x := range testSigns {
		if x.sign == sign.Text {
			t.Kind = x.kind
		}
	}
	if t.Kind == 0 {
		refuse(sign)
	}
	t.B = r.operand()
	return t
}
