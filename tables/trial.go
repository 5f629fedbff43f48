package tables

import "turnout/api"

// A trial answers changes as the entries below it would, but lays them beside those, which stay as they are. Nothing else is asked of it: what it tells is what those hold. It lives no longer than the call that made it: so it may keep what it is handed.
type trial struct {
	way
	most, count int
	met         map[who]standing // of those entries that were changed
}

// who is an entry: its matches, with zero ones behind them, and its priority.
type who struct {
	matches  [api.MaxKeys]api.Match
	priority int
}

// A standing is how an entry stands: as what it is kept, if it is there.
type standing struct {
	entry api.Entry
	there bool
}

func newTrial(x *table) way {
	return &trial{way: x.entries, most: x.Size, count: x.entries.Len(), met: map[who]standing{}}
}

func whoIs(e api.Entry) who {
	w := who{priority: e.Priority}
	copy(w.matches[:], e.Match)
	return w
}

func (t *trial) Get(e api.Entry) (api.Entry, bool) {
	if is, met := t.met[whoIs(e)]; met {
		return is.entry, is.there
	}
	return t.way.Get(e)
}

func (t *trial) Put(e api.Entry) api.Errno {
	if _, there := t.Get(e); there {
		return api.ErrDup
	}
	if t.count == t.most {
		return api.ErrFull
	}
	t.count++
	t.met[whoIs(e)] = standing{e, true}
	return api.OK
}

func (t *trial) Set(e api.Entry) api.Errno {
	if _, there := t.Get(e); !there {
		return api.ErrAbsent
	}
	t.met[whoIs(e)] = standing{e, true}
	return api.OK
}

func (t *trial) Drop(e api.Entry) (api.Entry, bool) {
	was, there := t.Get(e)
	if there {
		t.count--
		t.met[whoIs(e)] = standing{}
	}
	return was, there
}
