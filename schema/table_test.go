package schema_test

import (
	"math"
	"testing"

	"turnout/api"
)

// P7.2: tables.

func TestCheckTables(t *testing.T) {
	fill := func(count int) func(*api.Schema) {
		return func(s *api.Schema) {
			for _, name := range names("more", count-len(s.Tables)) {
				x := s.Tables[2]
				x.Name = name
				s.Tables = append(s.Tables, x)
			}
		}
	}
	can := func(count int) func(*api.Schema) {
		return func(s *api.Schema) {
			for _, name := range names("more", 60) {
				s.Actions = append(s.Actions, api.Action{Name: name})
			}
			list := []string{"none", "out", "hop", "grow"}
			s.Tables[0].Actions = append(list, names("more", count-4)...)
		}
	}
	size := func(size int) func(*api.Schema) { return func(s *api.Schema) { s.Tables[0].Size = size } }
	acts := func(list ...string) func(*api.Schema) { return func(s *api.Schema) { s.Tables[0].Actions = list } }
	checkTurned(t, []turned{
		{"32 tables", fill(32), api.OK, ""},
		{"33 tables", fill(33), api.ErrMany, "table"},
		{"no name", func(s *api.Schema) { s.Tables[1].Name = "9" }, api.ErrName, "table 9"},
		{"twice", func(s *api.Schema) { s.Tables[2].Name = "acl" }, api.ErrTwice, "table acl"},
		{"no action", acts(), api.ErrMany, "table route"},
		{"an empty list of actions", acts([]string{}...), api.ErrMany, "table route"},
		{"64 actions", can(64), api.OK, ""},
		{"65 actions", can(65), api.ErrMany, "table route"},
		{"no such action", acts("none", "nothing"), api.ErrUnknown, "table route"},
		{"an action without a name", acts("none", ""), api.ErrUnknown, "table route"},
		{"a table as an action", acts("none", "route"), api.ErrUnknown, "table route"},
		{"an action twice", acts("none", "out", "none"), api.ErrTwice, "table route"},
		{"an unknown action twice", acts("none", "x", "x"), api.ErrUnknown, "table route"},
		{"an action of two tables", func(s *api.Schema) { s.Tables[2].Actions = []string{"hop", "out", "grow"} }, api.OK, ""},
		{"size 0", size(0), api.ErrMany, "table route"},
		{"size 1", size(1), api.OK, ""},
		{"size 4096", size(4096), api.OK, ""},
		{"size 4097", size(4097), api.ErrMany, "table route"},
		{"size -1", size(-1), api.ErrMany, "table route"},
		{"the least size", size(math.MinInt), api.ErrMany, "table route"},
		{"the greatest size", size(math.MaxInt), api.ErrMany, "table route"},
		{"fixed", func(s *api.Schema) { s.Tables[0].Fixed = true }, api.OK, ""},
	})
}

func TestCheckKeys(t *testing.T) {
	keys := func(list ...api.Key) func(*api.Schema) { return func(s *api.Schema) { s.Tables[2].Keys = list } }
	of := func(kinds ...int) func(*api.Schema) {
		var list []api.Key
		for _, kind := range kinds {
			list = append(list, api.Key{Ref: ref("ip", "ttl"), Kind: kind})
		}
		return keys(list...)
	}
	const e, p, x, r = api.Exact, api.Prefix, api.Ternary, api.Range
	key := func(head, name string) api.Key { return api.Key{Ref: ref(head, name), Kind: e} }
	checkTurned(t, []turned{
		{"no key", keys(), api.ErrMany, "table mac"},
		{"an empty list of keys", keys([]api.Key{}...), api.ErrMany, "table mac"},
		{"8 keys, of one field", of(e, e, e, e, e, e, e, e), api.OK, ""},
		{"9 keys", of(e, e, e, e, e, e, e, e, e), api.ErrMany, "table mac"},
		{"metadata", keys(key("meta", "mark")), api.OK, ""},
		{"no such field", keys(key("ip", "ttl"), key("ip", "x")), api.ErrUnknown, "table mac"},
		{"no such header", keys(key("tcp", "ttl")), api.ErrUnknown, "table mac"},
		{"no such metadata", keys(key("meta", "ttl")), api.ErrUnknown, "table mac"},
		{"a header", keys(key("ip", "")), api.ErrUnknown, "table mac"},
		{"nothing", keys(key("", "")), api.ErrUnknown, "table mac"},
		{"a parameter", keys(key("", "d")), api.ErrUnknown, "table mac"},
		{"kind 0", of(e, 0), api.ErrKind, "table mac"},
		{"kind 5", of(e, 5), api.ErrKind, "table mac"},
		{"kind -1", of(-1), api.ErrKind, "table mac"},
		{"a prefix", of(p), api.OK, ""},
		{"a ternary", of(x), api.OK, ""},
		{"a range", of(r), api.OK, ""},
		{"a prefix among exact ones", of(e, p, e), api.OK, ""},
		{"ternaries, ranges, exact ones", of(x, r, e, x, r, e), api.OK, ""},
		{"two prefixes", of(p, p), api.ErrKind, "table mac"},
		{"two prefixes, an exact one between", of(p, e, p), api.ErrKind, "table mac"},
		{"a prefix, then a ternary", of(p, x), api.ErrKind, "table mac"},
		{"a ternary, then a prefix", of(x, p), api.ErrKind, "table mac"},
		{"a prefix, then a range", of(p, e, r), api.ErrKind, "table mac"},
		{"a range, then a prefix", of(r, e, p), api.ErrKind, "table mac"},
		{"a prefix, a ternary that names nothing", keys(api.Key{Ref: ref("ip", "src"), Kind: p}, api.Key{Kind: x}), api.ErrKind, "table mac"},
		{"a prefix, a prefix that names nothing", keys(api.Key{Ref: ref("ip", "src"), Kind: p}, api.Key{Kind: p}), api.ErrUnknown, "table mac"},
		{"a key of no kind that names nothing", keys(api.Key{}), api.ErrUnknown, "table mac"},
	})
}

func TestCheckDefaults(t *testing.T) {
	call := func(name string, args ...api.Bits) func(*api.Schema) {
		return func(s *api.Schema) { s.Tables[0].Default = api.Call{Action: name, Args: args} }
	}
	most, over := n(1<<48-1), n(1<<48)
	checkTurned(t, []turned{
		{"no action", call(""), api.ErrAction, "table route"},
		{"no such action", call("nothing"), api.ErrAction, "table route"},
		{"an action that the table has not", call("grow"), api.ErrAction, "table route"},
		{"an argument too many of an action that has none", call("none", n(0)), api.ErrArgs, "table route"},
		{"an empty list", call("none", []api.Bits{}...), api.OK, ""},
		{"no argument", call("hop"), api.ErrArgs, "table route"},
		{"one too few", call("hop", n(1)), api.ErrArgs, "table route"},
		{"two", call("hop", n(1), n(1)), api.OK, ""},
		{"one too many", call("hop", n(1), n(1), n(0)), api.ErrArgs, "table route"},
		{"the greatest ones", call("hop", most, n(1<<32-1)), api.OK, ""},
		{"the first one is too great", call("hop", over, n(1)), api.ErrArgs, "table route"},
		{"the second one is too great", call("hop", n(1), n(1<<32)), api.ErrArgs, "table route"},
		{"far too great", call("out", api.Bits{Hi: 1}), api.ErrArgs, "table route"},
		{"an unknown action, with arguments", call("nothing", n(1)), api.ErrAction, "table route"},
		{"the second table's", func(s *api.Schema) { s.Tables[1].Default.Args[0] = n(512) }, api.ErrArgs, "table acl"},
	})
}
