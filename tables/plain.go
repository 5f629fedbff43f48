package tables

import (
	"slices"
	"strings"

	"turnout/api"
	"turnout/match"
)

// isOp tells whether an operation is of a kind, and well made.
func isOp(op api.Op) bool {
	noWho := len(op.Entry.Match) == 0 && op.Entry.Priority == 0
	noCall := op.Entry.Call.Action == "" && len(op.Entry.Call.Args) == 0
	switch op.Kind {
	case api.Insert, api.Modify:
		return true
	case api.Delete:
		return noCall
	case api.Default:
		return noWho
	case api.Clear:
		return noWho && noCall
	}
	return false
}

// copied is an entry in new memory.
func copied(e api.Entry) api.Entry {
	return api.Entry{Match: slices.Clone(e.Match), Priority: e.Priority, Call: copiedCall(e.Call)}
}

func copiedCall(c api.Call) api.Call {
	return api.Call{Action: strings.Clone(c.Action), Args: slices.Clone(c.Args)}
}

func sameHeld(a, b api.Held) bool {
	return sameCall(a.Default, b.Default) && slices.EqualFunc(a.Entries, b.Entries, sameEntry)
}

func sameEntry(a, b api.Entry) bool { return match.Same(a, b) && sameCall(a.Call, b.Call) }

func sameCall(a, b api.Call) bool {
	return a.Action == b.Action && slices.Equal(a.Args, b.Args)
}
