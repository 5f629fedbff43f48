package schema

import (
	"slices"
	"strings"

	"turnout/api"
)

// walk hands over the stages of a list, and those within them, from above, each with its depth, as long as it is told to go on. It tells whether it came to the end.
func walk(list []api.Stage, depth int, goesOn func(stage api.Stage, depth int) bool) bool {
	for _, stage := range list {
		if !goesOn(stage, depth) || !walk(stage.Then, depth+1, goesOn) || !walk(stage.Else, depth+1, goesOn) {
			return false
		}
	}
	return true
}

// size is the error that a control has for its size: too many stages, or one too deep. It does not go on behind those that may be, however great the control is.
func size(control []api.Stage) api.Errno {
	count, deepest := 0, 0
	walk(control, 1, func(_ api.Stage, depth int) bool {
		count++
		deepest = max(deepest, depth)
		return count <= api.MaxStages
	})
	switch {
	case count > api.MaxStages:
		return api.ErrMany
	case deepest > api.MaxDeep:
		return api.ErrDeep
	}
	return api.OK
}

// Applied are the tables that the control asks, in the order of its stages.
func Applied(s api.Schema) []string {
	if size(s.Control) != api.OK {
		return nil
	}
	var list []string
	met := map[string]int{}
	walk(s.Control, 1, func(stage api.Stage, _ int) bool {
		if _, again := met[stage.Table]; stage.Kind == api.StageApply && !again {
			met[stage.Table] = len(list)
			list = append(list, strings.Clone(stage.Table))
		}
		return true
	})
	return list
}

// Meets is how many tables one pass can ask at most.
func Meets(s api.Schema) int {
	if size(s.Control) != api.OK {
		return 0
	}
	return most(s.Control, 0)
}

// most is how many tables a pass can meet from the beginning of a list on, if from its end on it can meet so many as stand behind it.
func most(list []api.Stage, behind int) int {
	for _, stage := range slices.Backward(list) {
		within := max(most(stage.Then, behind), most(stage.Else, behind))
		switch stage.Kind {
		case api.StageApply:
			behind = 1 + within
		case api.StageIf:
			behind = within
		case api.StageExit:
			behind = 0
		}
	}
	return behind
}
