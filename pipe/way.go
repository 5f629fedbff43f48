package pipe

import (
	"slices"
	"strings"

	"turnout/api"
	"turnout/schema"
	"turnout/wire"
)

// A way is that of a packet through the control.
type way struct {
	*flow
	source Source
	rounds int
	trace  []api.Hit
}

// passes goes through the control as often as the packet goes again.
func (w *way) passes() api.Errno {
	for goes := true; goes; {
		w.rounds++
		w.again = false
		if _, e := w.pass(w.pipe.control); e != api.OK {
			return e
		}
		goes = w.again && !w.dropped && w.rounds < api.MaxRounds
	}
	return api.OK
}

// pass goes through the stages of a list. It tells whether the pass goes on behind them: it does not behind an exit, nor behind an error.
func (w *way) pass(list []stage) (bool, api.Errno) {
	for _, s := range list {
		if s.kind == api.StageExit {
			return false, api.OK
		}
		next, e := w.next(s)
		if e != api.OK {
			return false, e
		}
		if goesOn, e := w.pass(next); !goesOn {
			return false, e
		}
	}
	return true, api.OK
}

// next are the stages within a stage that a pass goes through.
func (w *way) next(s stage) ([]stage, api.Errno) {
	var holds bool
	var e api.Errno
	if s.kind == api.StageApply {
		holds, e = w.apply(s)
	} else {
		holds = s.holds(w.flow)
	}
	if holds {
		return s.then, e
	}
	return s.orElse, e
}

// apply asks a table, and does what it answers. It tells whether an entry was found.
func (w *way) apply(s stage) (bool, api.Errno) {
	key := make([]api.Bits, len(s.key))
	for i, at := range s.key {
		key[i] = w.value(at)
	}
	hit, e := w.source.Lookup(s.table, key...)
	if e != api.OK {
		return false, e
	}
	// What the source answered stays its own: what is looked over here is what is done.
	hit = copied(hit)
	if e := schema.Call(w.pipe.called, s.table, hit.Call); e != api.OK {
		return false, e
	}
	w.trace = append(w.trace, hit)
	w.do(w.pipe.actions[hit.Call.Action], hit.Call.Args)
	return hit.Found, api.OK
}

// copied is a hit in new memory.
func copied(h api.Hit) api.Hit {
	h.Table = strings.Clone(h.Table)
	h.Entry.Match = slices.Clone(h.Entry.Match)
	h.Entry.Call = copiedCall(h.Entry.Call)
	h.Call = copiedCall(h.Call)
	return h
}

func copiedCall(c api.Call) api.Call {
	return api.Call{Action: strings.Clone(c.Action), Args: slices.Clone(c.Args)}
}

// ended is the result of a way that ends with an error.
func (w *way) ended(e api.Errno) api.Result {
	return api.Result{Error: e, Rounds: w.rounds, Trace: w.trace}
}

// through is the result of a way that came to its end.
func (w *way) through() api.Result {
	k := w.packet()
	r := api.Result{Drop: w.dropped, Meta: k.Meta, Rounds: w.rounds, Trace: w.trace}
	if w.dropped {
		return r
	}
	out, e := wire.Build(w.pipe.plain, k)
	if e != api.OK {
		return w.ended(e)
	}
	r.Out = out
	return r
}
