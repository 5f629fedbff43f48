package wire

import (
	"turnout/api"
	"turnout/value"
)

// Where the parser goes on that is no state.
const (
	accept = "accept"
	reject = "reject"
)

// parse takes headers out of the rest, state by state, from the first one on. A sound schema's states never come round: so it ends.
func (k *parts) parse() api.Errno {
	states := map[string]api.State{}
	for _, state := range k.schema.States {
		states[state.Name] = state
	}
	next := accept
	if len(k.schema.States) > 0 {
		next = k.schema.States[0].Name
	}
taking:
	for {
		switch next {
		case accept:
			break taking
		case reject:
			return api.ErrReject
		}
		state := states[next]
		if e := k.take(state.Header); e != api.OK {
			return e
		}
		next = k.behind(state)
	}
	return api.OK
}

// take takes a header out of the rest.
func (k *parts) take(header string) api.Errno {
	at := headerAt(k.schema, header)
	if k.heads[at] != nil {
		return api.ErrAgain
	}
	h := k.schema.Headers[at]
	n := size(h)
	if len(k.rest) < n {
		return api.ErrShort
	}
	k.heads[at] = valuesOf(h, k.rest[:n])
	k.rest = k.rest[n:]
	return api.OK
}

// behind is where the parser goes on behind a state. One that looks at nothing has no cases.
func (k *parts) behind(state api.State) string {
	on := k.value(state.On)
	for _, c := range state.Cases {
		if value.And(on, c.Mask) == c.Value {
			return c.Next
		}
	}
	return state.Next
}
