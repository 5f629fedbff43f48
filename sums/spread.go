package sums

import "turnout/api"

// Spread is a spreading number of bytes.
func Spread(seed uint32, b string) uint32 {
	h := 0x811C9DC5 ^ seed
	for i := 0; i < len(b); i++ {
		h = (h ^ uint32(b[i])) * 0x01000193
	}
	h = (h ^ h>>16) * 0x85EBCA6B
	return h ^ h>>13
}

// Slots are numbers from 0 to most - 1, one a text: the first free one from Spread on.
func Slots(seed uint32, most int, l ...string) ([]int, api.Errno) {
	if most < 1 {
		return nil, api.ErrArg
	}
	held := map[string]int{}
	taken := ring{most, map[int]int{}}
	out := make([]int, 0, len(l))
	for _, text := range l {
		s, ok := held[text]
		if !ok {
			if len(held) == most {
				return nil, api.ErrFull
			}
			s = taken.take(int(uint64(Spread(seed, text)) % uint64(most)))
			held[text] = s
		}
		out = append(out, s)
	}
	return out, api.OK
}

// A ring keeps which of the numbers 0 to most - 1 are taken: to each of these it has a later one, such that all between are taken, too.
type ring struct {
	most  int
	later map[int]int
}

// take takes the first number from s on that is free, and tells it. One must be.
func (r ring) take(s int) int {
	for {
		n, ok := r.later[s]
		if !ok {
			r.later[s] = (s + 1) % r.most
			return s
		}
		// Ways that were gone get shorter: so long rows of taken numbers are not gone through anew for each text.
		if far, ok := r.later[n]; ok {
			r.later[s] = far
		}
		s = n
	}
}
