package pipe_test

import (
	"strings"
	"testing"

	"turnout/api"
)

// small is the chapter's schema.
const small = `
header eth { dst: 8; type: 8; }
header tag { id: 16; }
meta { port: 8; }
state first { take eth; else accept; }
action out(p: 8) { meta.port = p; }
action push() { add tag; tag.id = 7; }
action none() { drop; }
action round() { eth.dst = eth.dst + 1; again; }
table t { key eth.dst exact; can out, push, none, round; size 256; default none(); }
control { apply t; }
`

// entries are what the chapter's source holds.
func entries() map[uint64]api.Call {
	return map[uint64]api.Call{
		1: call("out", 9), 2: call("push"), 3: call("round"), 4: call("out", 5), 255: call("round"), 0: call("out", 1),
	}
}

// inT is a hit of the entry of table t that stands under a value.
func inT(value uint64, c api.Call) api.Hit {
	return api.Hit{Table: "t", Found: true, Call: c, Entry: api.Entry{Match: []api.Match{{Value: n(value)}}, Call: c}}
}

// TestExamples: the chapter's examples.
func TestExamples(t *testing.T) {
	s := schemaOf(t, small)
	p, from := ready(t, s), set(t, s, entries())
	long := strings.Repeat("x", api.MaxPacket-2)
	one := []api.Hit{inT(1, call("out", 9))}
	push := []api.Hit{inT(2, call("push"))}
	for packet, want := range map[string]api.Result{
		"\x01\x02\x03":    {Out: "\x01\x02\x03", Meta: ns(9), Rounds: 1, Trace: one},
		"\x02\x00":        {Out: "\x02\x00\x00\x07", Meta: ns(0), Rounds: 1, Trace: push},
		"\x03\x00":        {Out: "\x04\x00", Meta: ns(5), Rounds: 2, Trace: []api.Hit{inT(3, call("round")), inT(4, call("out", 5))}},
		"\xff\x00":        {Out: "\x00\x00", Meta: ns(1), Rounds: 2, Trace: []api.Hit{inT(255, call("round")), inT(0, call("out", 1))}},
		"\x07\x00":        {Drop: true, Meta: ns(0), Rounds: 1, Trace: []api.Hit{missed("t", call("none"))}},
		"\x07":            {Error: api.ErrShort},
		"\x01\x02" + long: {Out: "\x01\x02" + long, Meta: ns(9), Rounds: 1, Trace: one},
		"\x02\x02" + long: {Error: api.ErrLong, Rounds: 1, Trace: push},
	} {
		checkRun(t, p, from, nil, packet, want)
	}
	checkRun(t, p, always(found("", call("other"))), nil, "\x01\x02", api.Result{Error: api.ErrAction, Rounds: 1})
	from = set(t, s, map[uint64]api.Call{3: call("round"), 4: call("round"), 5: call("round"), 6: call("round"), 7: call("round"), 8: call("round")})
	var four []api.Hit
	for i := range uint64(4) {
		four = append(four, inT(3+i, call("round")))
	}
	checkRun(t, p, from, nil, "\x03\x00", api.Result{Out: "\x07\x00", Meta: ns(0), Rounds: 4, Trace: four})
}
