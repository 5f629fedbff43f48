package schema_test

import (
	"math"
	"slices"
	"strings"
	"testing"

	"turnout/api"
)

// P7.2: headers, metadata, states.

func TestSound(t *testing.T) {
	check(t, "the empty schema", api.Schema{}, api.OK, "")
	check(t, "empty lists", api.Schema{Headers: []api.Header{}, Meta: []api.Field{}, States: []api.State{}, Actions: []api.Action{}, Tables: []api.Table{}, Control: []api.Stage{}}, api.OK, "")
	check(t, "the sample", sample(), api.OK, "")
}

// long is a name of the most bytes.
var long = strings.Repeat("n", 32)

func TestCheckHeaders(t *testing.T) {
	fill := func(count int) func(*api.Schema) {
		return func(s *api.Schema) {
			for _, name := range names("more", count-len(s.Headers)) {
				s.Headers = append(s.Headers, api.Header{Name: name, Fields: fields(1, 8)})
			}
		}
	}
	opt := func(list ...api.Field) func(*api.Schema) {
		return func(s *api.Schema) { s.Headers = append(s.Headers, api.Header{Name: "z", Fields: list}) }
	}
	wide := func(widths ...int) func(*api.Schema) {
		list := fields(len(widths), 0)
		for i, w := range widths {
			list[i].Width = w
		}
		return opt(list...)
	}
	checkTurned(t, []turned{
		{"32 headers", fill(32), api.OK, ""},
		{"33 headers", fill(33), api.ErrMany, "header"},
		{"1000 headers", fill(1000), api.ErrMany, "header"},
		{"a capital letter", func(s *api.Schema) { s.Headers[0].Name = "Eth" }, api.ErrName, "header Eth"},
		{"any bytes", func(s *api.Schema) { s.Headers[0].Name = "\xff\x00\n" }, api.ErrName, "header \xff\x00\n"},
		{"a name of 32 bytes", func(s *api.Schema) { s.Headers = append(s.Headers, api.Header{Name: long, Fields: fields(1, 8)}) }, api.OK, ""},
		{"a name of 33 bytes", func(s *api.Schema) { s.Headers[1].Name = long + "n" }, api.ErrName, "header " + long + "n"},
		{"twice", func(s *api.Schema) { s.Headers[2].Name = "eth" }, api.ErrTwice, "header eth"},
		{"called as a state, an action, a table and a field", func(s *api.Schema) {
			for _, name := range []string{"first", "out", "route", "port"} {
				s.Headers = append(s.Headers, api.Header{Name: name, Fields: fields(1, 8)})
			}
		}, api.OK, ""},
		{"no field", opt(), api.ErrMany, "header z"},
		{"an empty list of fields", opt([]api.Field{}...), api.ErrMany, "header z"},
		{"32 fields", opt(fields(32, 128)...), api.OK, ""},
		{"33 fields", opt(fields(33, 8)...), api.ErrMany, "header z"},
		{"a field twice", opt(api.Field{Name: "a", Width: 4}, api.Field{Name: "b", Width: 4}, api.Field{Name: "a", Width: 8}), api.ErrTwice, "header z"},
		{"a field called as its header", opt(api.Field{Name: "z", Width: 8}), api.OK, ""},
		{"0 bits", wide(0), api.ErrBits, "header z"},
		{"0 and 8 bits", wide(0, 8), api.ErrBits, "header z"},
		{"1 bit", wide(1), api.ErrBits, "header z"},
		{"1 and 7 bits", wide(1, 7), api.OK, ""},
		{"4 bits", wide(4), api.ErrBits, "header z"},
		{"8 bits", wide(8), api.OK, ""},
		{"128 bits", wide(128), api.OK, ""},
		{"129 and 7 bits", wide(129, 7), api.ErrBits, "header z"},
		{"136 bits", wide(136), api.ErrBits, "header z"},
		{"-8 bits", wide(-8), api.ErrBits, "header z"},
		{"-8 and 16 bits", wide(-8, 16), api.ErrBits, "header z"},
		{"the greatest number", wide(math.MaxInt, 1), api.ErrBits, "header z"},
		{"the least number", wide(math.MinInt), api.ErrBits, "header z"},
		{"127 bits in all", wide(128, 127), api.ErrBits, "header z"},
	})
}

func TestCheckMeta(t *testing.T) {
	meta := func(list ...api.Field) func(*api.Schema) {
		return func(s *api.Schema) { s.Meta = append(s.Meta, list...) }
	}
	checkTurned(t, []turned{
		{"32 fields", meta(fields(30, 3)...), api.OK, ""},
		{"33 fields", meta(fields(31, 3)...), api.ErrMany, "meta"},
		{"no name", meta(api.Field{Name: "Port", Width: 1}), api.ErrName, "meta"},
		{"twice", meta(api.Field{Name: "port", Width: 9}), api.ErrTwice, "meta"},
		{"called as a header", meta(api.Field{Name: "eth", Width: 9}), api.OK, ""},
		{"no bit", meta(api.Field{Name: "x"}), api.ErrBits, "meta"},
		{"a bit", meta(api.Field{Name: "x", Width: 1}), api.OK, ""},
		{"128 bits", meta(api.Field{Name: "x", Width: 128}), api.OK, ""},
		{"129 bits", meta(api.Field{Name: "x", Width: 129}), api.ErrBits, "meta"},
		{"-1 bits", meta(api.Field{Name: "x", Width: -1}), api.ErrBits, "meta"},
	})
}

// state is a turn that lays a state behind the others.
func state(x api.State) func(*api.Schema) {
	return func(s *api.Schema) { s.States = append(s.States, x) }
}

func TestCheckStates(t *testing.T) {
	fill := func(count int) func(*api.Schema) {
		return func(s *api.Schema) {
			for _, name := range names("more", count-len(s.States)) {
				s.States = append(s.States, api.State{Name: name, Header: "ip", Next: "first"})
			}
		}
	}
	checkTurned(t, []turned{
		{"32 states", fill(32), api.OK, ""},
		{"33 states", fill(33), api.ErrMany, "state"},
		{"no name", state(api.State{Name: "Z", Header: "ip", Next: "accept"}), api.ErrName, "state Z"},
		{"called accept", state(api.State{Name: "accept", Header: "ip", Next: "accept"}), api.ErrName, "state accept"},
		{"twice", state(api.State{Name: "second", Header: "ip", Next: "accept"}), api.ErrTwice, "state second"},
		{"called as its header", state(api.State{Name: "ip", Header: "ip", Next: "accept"}), api.OK, ""},
		{"a header taken a second time", state(api.State{Name: "z", Header: "ip", Next: "second"}), api.OK, ""},
		{"no header", state(api.State{Name: "z", Next: "accept"}), api.ErrUnknown, "state z"},
		{"no such header", state(api.State{Name: "z", Header: "tcp", Next: "accept"}), api.ErrUnknown, "state z"},
		{"the metadata is no header", state(api.State{Name: "z", Header: "meta", Next: "accept"}), api.ErrUnknown, "state z"},
		{"on without cases", state(api.State{Name: "z", Header: "ip", On: ref("ip", "ttl"), Next: "accept"}), api.OK, ""},
		{"on a field of another header", state(api.State{Name: "z", Header: "ip", On: ref("opt", "b"), Next: "accept"}), api.OK, ""},
		{"on metadata", state(api.State{Name: "z", Header: "ip", On: ref("meta", "mark"), Next: "accept"}), api.OK, ""},
		{"on no such field", state(api.State{Name: "z", Header: "ip", On: ref("ip", "dst"), Next: "accept"}), api.ErrUnknown, "state z"},
		{"on no such header", state(api.State{Name: "z", Header: "ip", On: ref("tcp", "ttl"), Next: "accept"}), api.ErrUnknown, "state z"},
		{"on no such metadata", state(api.State{Name: "z", Header: "ip", On: ref("meta", "ttl"), Next: "accept"}), api.ErrUnknown, "state z"},
		{"on a parameter", state(api.State{Name: "z", Header: "ip", On: ref("", "p"), Next: "accept"}), api.ErrUnknown, "state z"},
		{"on a field of no head", state(api.State{Name: "z", Header: "ip", On: ref("", "ttl"), Next: "accept"}), api.ErrUnknown, "state z"},
		{"on a whole header", state(api.State{Name: "z", Header: "ip", On: ref("ip", ""), Next: "accept"}), api.ErrUnknown, "state z"},
		{"no next", state(api.State{Name: "z", Header: "ip"}), api.ErrUnknown, "state z"},
		{"no such next", state(api.State{Name: "z", Header: "ip", Next: "nowhere"}), api.ErrUnknown, "state z"},
		{"a header as next", state(api.State{Name: "z", Header: "ip", Next: "ip"}), api.ErrUnknown, "state z"},
		{"Accept", state(api.State{Name: "z", Header: "ip", Next: "Accept"}), api.ErrUnknown, "state z"},
		{"a later state that has no name", func(s *api.Schema) { s.States[0].Next, s.States[2].Name = "", "" }, api.ErrUnknown, "state second"},
		{"a later state whose name is none", func(s *api.Schema) { s.States[0].Next, s.States[1].Next, s.States[2].Name = "Z", "Z", "Z" }, api.ErrName, "state Z"},
	})
}

func TestCheckCases(t *testing.T) {
	on := func(r api.Ref, list ...api.Case) func(*api.Schema) {
		return state(api.State{Name: "z", Header: "ip", On: r, Cases: list, Next: "accept"})
	}
	to := func(value, mask uint64) api.Case { return api.Case{Value: n(value), Mask: n(mask), Next: "accept"} }
	ttl, wide := ref("ip", "ttl"), ref("opt", "b")
	var many []api.Case
	for i := range uint64(33) {
		many = append(many, to(i, 255))
	}
	checkTurned(t, []turned{
		{"32 cases", on(ttl, many[:32]...), api.OK, ""},
		{"33 cases", on(ttl, many...), api.ErrMany, "state z"},
		{"33 cases without On", on(api.Ref{}, many...), api.ErrMany, "state z"},
		{"a case without On", on(api.Ref{}, many[0]), api.ErrKind, "state z"},
		{"a zero case without On", on(api.Ref{}, api.Case{Next: "accept"}), api.ErrKind, "state z"},
		{"an empty list without On", on(api.Ref{}, []api.Case{}...), api.OK, ""},
		{"the greatest mask", on(ttl, to(255, 255)), api.OK, ""},
		{"a mask that is too wide", on(ttl, to(0, 256)), api.ErrBits, "state z"},
		{"a mask that is far too wide", on(ttl, api.Case{Mask: api.Bits{Hi: 1}, Next: "accept"}), api.ErrBits, "state z"},
		{"no mask", on(ttl, to(0, 0)), api.OK, ""},
		{"a value outside the mask", on(ttl, to(1, 0)), api.ErrBits, "state z"},
		{"a bit outside the mask", on(ttl, to(0x1f, 0xf0)), api.ErrBits, "state z"},
		{"a high bit outside the mask", on(wide, api.Case{Value: api.Bits{Hi: 1}, Mask: n(1), Next: "accept"}), api.ErrBits, "state z"},
		{"bits within the mask", on(ttl, to(0x50, 0xf0)), api.OK, ""},
		{"all of 128 bits", on(wide, api.Case{Value: api.Bits{Hi: math.MaxUint64, Lo: math.MaxUint64}, Mask: api.Bits{Hi: math.MaxUint64, Lo: math.MaxUint64}, Next: "accept"}), api.OK, ""},
		{"twice", on(ttl, to(1, 255), to(2, 255), to(1, 255)), api.ErrTwice, "state z"},
		{"twice, to another state", on(ttl, to(1, 255), api.Case{Value: n(1), Mask: n(255), Next: "first"}), api.ErrTwice, "state z"},
		{"the same value, another mask", on(ttl, to(1, 255), to(1, 127)), api.OK, ""},
		{"the same mask, another value", on(ttl, to(1, 255), to(0, 255)), api.OK, ""},
		{"unlike in their high half alone", on(wide, api.Case{Value: api.Bits{Hi: 1}, Mask: api.Bits{Hi: 3}, Next: "accept"}, api.Case{Value: api.Bits{Hi: 2}, Mask: api.Bits{Hi: 3}, Next: "accept"}), api.OK, ""},
		{"twice, of states apart", func(s *api.Schema) {
			on(ttl, to(1, 255))(s)
			state(api.State{Name: "y", Header: "ip", On: ttl, Cases: []api.Case{to(1, 255)}, Next: "z"})(s)
		}, api.OK, ""},
		{"no such next", on(ttl, api.Case{Next: "nowhere"}), api.ErrUnknown, "state z"},
		{"no next", on(ttl, api.Case{}), api.ErrUnknown, "state z"},
		{"to a state, accept, reject", on(ttl, api.Case{Next: "first"}, api.Case{Mask: n(1), Next: "accept"}, api.Case{Mask: n(2), Next: "reject"}), api.OK, ""},
		{"a case's error is ahead of the state's Next", func(s *api.Schema) {
			state(api.State{Name: "z", Header: "ip", On: ttl, Cases: []api.Case{to(1, 0)}, Next: "nowhere"})(s)
		}, api.ErrBits, "state z"},
	})
}

// ring is a schema of states of these names, each of which leads to those behind its colon, the last one by Next.
func ring(list ...string) api.Schema {
	s := sample()
	s.States = nil
	for _, x := range list {
		name, next, _ := strings.Cut(x, ":")
		to := strings.Fields(next)
		one := api.State{Name: name, Header: "ip", Next: to[len(to)-1]}
		for i, where := range to[:len(to)-1] {
			one.On = ref("ip", "ttl")
			one.Cases = append(one.Cases, api.Case{Value: n(uint64(i)), Mask: n(255), Next: where})
		}
		s.States = append(s.States, one)
	}
	return s
}

func TestCheckLoops(t *testing.T) {
	check(t, "at once, by Next", ring("a:a"), api.ErrLoop, "state a")
	check(t, "at once, by a case", ring("a:reject a accept"), api.ErrLoop, "state a")
	check(t, "by another", ring("s:t", "t:s"), api.ErrLoop, "state s")
	check(t, "by two others", ring("a:b", "b:c", "c:a"), api.ErrLoop, "state a")
	check(t, "by a case of the last one", ring("a:b", "b:accept c reject", "c:a accept"), api.ErrLoop, "state a")
	check(t, "a state that leads to a loop is none of it", ring("a:b", "b:c", "c:b"), api.ErrLoop, "state b")
	check(t, "the last one alone", ring("a:b", "b:c", "c:c"), api.ErrLoop, "state c")
	check(t, "two loops", ring("a:accept", "b:c", "c:b", "d:d"), api.ErrLoop, "state b")
	check(t, "a loop that nothing leads to", ring("a:accept", "b:b"), api.ErrLoop, "state b")
	check(t, "a loop backwards", ring("c:accept", "b:d", "d:b"), api.ErrLoop, "state b")
	check(t, "states that nothing leads to", ring("a:accept", "b:a", "c:a b accept"), api.OK, "")
	check(t, "two ways to one state", ring("a:b c d", "b:d", "c:d", "d:accept"), api.OK, "")
	check(t, "the last one leads to the first", ring("a:accept", "b:a", "c:b", "d:a"), api.OK, "")
	check(t, "an unknown one behind a loop", ring("a:a", "b:nowhere"), api.ErrUnknown, "state b")
	check(t, "a name behind a loop", ring("a:a", "B:accept"), api.ErrName, "state B")
	chain := names("s", 32)
	for i := range 31 {
		chain[i] += ":" + chain[i+1]
	}
	check(t, "32 states in a row", ring(append(slices.Clone(chain[:31]), "s31:accept")...), api.OK, "")
	for i := range 32 {
		last := "s31:s" + strings.Split(chain[i], ":")[0][1:]
		check(t, "32 states, the last one leads back", ring(append(slices.Clone(chain[:31]), last)...), api.ErrLoop, "state "+last[4:])
	}
	backwards := ring(append(slices.Clone(chain[:31]), "s31:accept")...)
	slices.Reverse(backwards.States)
	check(t, "32 states in a row, the last one first", backwards, api.OK, "")
	backwards.States[0].Next = "s0"
	check(t, "32 states in a ring", backwards, api.ErrLoop, "state s31")
}
