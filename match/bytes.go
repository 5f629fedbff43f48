package match

import (
	"slices"

	"turnout/api"
	"turnout/pack"
)

const (
	// priorityBytes are those of a priority.
	priorityBytes = 4
	// actionBytes are those of an action's number.
	actionBytes = 1
)

// packWho writes the matches and the priority of an entry that may be in the table.
func (k *table) packWho(w *pack.Writer, e api.Entry) {
	for i, p := range k.parts {
		p.pack(w, e.Match[i])
	}
	if k.ranked {
		w.Fixed(uint64(e.Priority), priorityBytes)
	}
}

// packCall writes a call that the table can have.
func (k *table) packCall(w *pack.Writer, c api.Call) {
	w.Fixed(uint64(slices.Index(k.actions, c.Action)), actionBytes)
	for i, p := range k.params(c.Action) {
		w.Bits(c.Args[i], p.Width)
	}
}

// unpackWho reads an entry, with a zero Call; any, where the bytes are none's.
func (k *table) unpackWho(r *pack.Reader) api.Entry {
	var e api.Entry
	for _, p := range k.parts {
		e.Match = append(e.Match, p.unpack(r))
	}
	if k.ranked {
		e.Priority = int(r.Fixed(priorityBytes))
	}
	return e
}

// unpackCall reads a call; any, where the bytes are none's.
func (k *table) unpackCall(r *pack.Reader) api.Call {
	number := r.Fixed(actionBytes)
	if number >= uint64(len(k.actions)) {
		return api.Call{}
	}
	// The name is a copy already: the table was found in new memory.
	c := api.Call{Action: k.actions[number]}
	for _, p := range k.params(c.Action) {
		c.Args = append(c.Args, r.Bits(p.Width))
	}
	return c
}

// whoSize is how many bytes packWho writes.
func (k *table) whoSize() int {
	size := 0
	for _, p := range k.parts {
		size += p.size
	}
	if k.ranked {
		size += priorityBytes
	}
	return size
}

// callSize is how many bytes packCall writes at most.
func (k *table) callSize() int {
	most := 0
	for _, action := range k.actions {
		size := 0
		for _, p := range k.params(action) {
			size += bytesOf(p.Width)
		}
		most = max(most, size)
	}
	return actionBytes + most
}
