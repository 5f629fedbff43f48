package schema

import (
	"turnout/api"
	"turnout/value"
)

func (c *checker) checkStates() {
	c.thing = "state"
	states := c.schema.States
	c.need(len(states) <= api.MaxStates, api.ErrMany)
	all := map[string]int{}
	for i, s := range states {
		all[s.Name] = i
	}
	ahead := map[string]int{}
	for _, s := range states {
		c.thing = "state " + s.Name
		c.needNew(s.Name, ahead)
		c.checkState(s, all)
	}
	c.checkLoops(all)
}

// checkState goes over a state, but for its name; all has the names of all states.
func (c *checker) checkState(s api.State, all map[string]int) {
	c.need(has(c.headers, s.Header), api.ErrUnknown)
	looks := s.On != api.Ref{}
	c.need(!looks || c.widths[s.On] > 0, api.ErrUnknown)
	c.need(len(s.Cases) <= api.MaxCases, api.ErrMany)
	c.need(looks || len(s.Cases) == 0, api.ErrKind)
	ahead := map[api.Case]int{}
	for i, x := range s.Cases {
		c.need(value.Fits(x.Mask, c.widths[s.On]) && value.And(x.Value, x.Mask) == x.Value, api.ErrBits)
		asked := api.Case{Value: x.Value, Mask: x.Mask}
		c.need(!has(ahead, asked), api.ErrTwice)
		ahead[asked] = i
		c.need(isNext(x.Next, all), api.ErrUnknown)
	}
	c.need(isNext(s.Next, all), api.ErrUnknown)
}

// isNext tells whether the parser can go on there.
func isNext(next string, states map[string]int) bool {
	return next == "accept" || next == "reject" || has(states, next)
}

// checkLoops gives up at the first state from which the parser comes to it again.
func (c *checker) checkLoops(places map[string]int) {
	states := c.schema.States
	// comes[i][j]: by the states that were looked at so far one comes from the state i to the state j.
	var comes [api.MaxStates][api.MaxStates]bool
	for i, s := range states {
		goesTo := func(next string) {
			if j, ok := places[next]; ok {
				comes[i][j] = true
			}
		}
		for _, x := range s.Cases {
			goesTo(x.Next)
		}
		goesTo(s.Next)
	}
	for by := range states {
		for i := range states {
			for j := range states {
				comes[i][j] = comes[i][j] || comes[i][by] && comes[by][j]
			}
		}
	}
	for i, s := range states {
		c.thing = "state " + s.Name
		c.need(!comes[i][i], api.ErrLoop)
	}
}
