package schema

import "turnout/api"

// isConst tells whether an operand is a constant.
func isConst(o api.Operand) bool { return o.Ref == api.Ref{} }

// isOperand tells whether an operand is well made.
func isOperand(o api.Operand) bool { return isConst(o) || o.Const == api.Bits{} }

// isStep tells whether a step is of a kind, and well made: whether it is what is left of it, if all that its kind does not name is taken out.
func isStep(step api.Step) bool {
	left := api.Step{Kind: step.Kind}
	switch step.Kind {
	case api.StepSet:
		left.To, left.Op, left.A = step.To, step.Op, step.A
		if step.Op != api.OpCopy {
			left.B = step.B
		}
	case api.StepAdd, api.StepRemove:
		left.To.Head = step.To.Head
	case api.StepSum:
		left.To = step.To
	case api.StepDrop, api.StepAgain:
	default:
		return false
	}
	return step == left && isOp(step.Op) && isOperand(step.A) && isOperand(step.B)
}

// isOp tells whether there is such an operation.
func isOp(op int) bool { return api.OpCopy <= op && op <= api.OpXor }

// isStage tells whether a stage is of a kind, and well made, its test too.
func isStage(stage api.Stage) bool {
	noTest := stage.Test == api.Test{}
	switch stage.Kind {
	case api.StageApply:
		return noTest
	case api.StageIf:
		return stage.Table == "" && isTest(stage.Test)
	case api.StageExit:
		return stage.Table == "" && noTest && len(stage.Then) == 0 && len(stage.Else) == 0
	}
	return false
}

// isTest tells whether a test is of a kind, and well made.
func isTest(test api.Test) bool {
	switch test.Kind {
	case api.TestValid:
		left := api.Test{Kind: api.TestValid}
		left.A.Ref.Head = test.A.Ref.Head
		return test == left
	case api.TestEq, api.TestNe, api.TestLt, api.TestLe:
		return isOperand(test.A) && isOperand(test.B)
	}
	return false
}
