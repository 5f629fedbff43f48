package pipe_test

import (
	"math"
	"strings"
	"testing"

	"turnout/api"
	"turnout/pipe"
	"turnout/tables"
)

// A deaf source is one that may hold a nil pointer, and answers all the same.
type deaf struct{}

func (*deaf) Lookup(table string, key ...api.Bits) (api.Hit, api.Errno) {
	return missed(table, call("out", 3)), api.OK
}

// P16.5, P16.3

// TestNoSource: no source is ErrArg; one that holds a nil pointer is asked.
func TestNoSource(t *testing.T) {
	p := ready(t, schemaOf(t, small))
	checkRun(t, p, nil, ns(1), "\x01\x02", api.Result{Error: api.ErrArg})
	var set *tables.Set
	checkRun(t, p, set, ns(1), "\x01\x02", api.Result{Error: api.ErrArg, Rounds: 1})
	var d *deaf
	checkRun(t, p, d, ns(1), "\x01\x02", api.Result{Out: "\x01\x02", Meta: ns(3), Rounds: 1, Trace: []api.Hit{missed("t", call("out", 3))}})
}

// TestNoPipe: a nil pipe answers ErrArg, of each packet, and asks nothing.
func TestNoPipe(t *testing.T) {
	var p *pipe.Pipe
	asks := source(func(string, []api.Bits) (api.Hit, api.Errno) {
		t.Error("it asks")
		return api.Hit{}, api.OK
	})
	for _, from := range []pipe.Source{nil, asks} {
		checkRun(t, p, from, ns(1), "\x01\x02", api.Result{Error: api.ErrArg})
		list := p.Many(from, nil, "\x01\x02", "", strings.Repeat("x", 5000))
		if len(list) != 3 {
			t.Fatalf("Many tells %d", len(list))
		}
		for _, r := range list {
			checkResult(t, "no pipe", r, api.Result{Error: api.ErrArg})
		}
		if list := p.Many(from, nil); len(list) != 0 {
			t.Errorf("Many of nothing tells %d", len(list))
		}
	}
}

// TestAnswers: what a source may answer, beside what a set of tables does.
func TestAnswers(t *testing.T) {
	s := schemaOf(t, small+"action more(p: 8, q: 128) { meta.port = p; } table u { key eth.dst exact; can more; size 1; default more(0, 0); }")
	p := ready(t, s)
	odd := api.Hit{
		Table: "no table", Found: true, Call: call("out", 3),
		Entry: api.Entry{Match: []api.Match{{Value: most, Mask: most, Len: math.MinInt}, {}}, Priority: math.MaxInt, Call: api.Call{Action: "Odd", Args: []api.Bits{most, {}}}},
	}
	for what, x := range map[string]struct {
		hit  api.Hit
		e    api.Errno
		want api.Errno
	}{
		"an error":                          {odd, 77, 77},
		"an error below 0":                  {odd, -5, -5},
		"an error and no hit":               {api.Hit{}, api.ErrTable, api.ErrTable},
		"nothing":                           {api.Hit{}, api.OK, api.ErrAction},
		"no such action":                    {found("t", call("other")), api.OK, api.ErrAction},
		"an action that the table has not":  {found("t", call("more", 1, 2)), api.OK, api.ErrAction},
		"no arguments":                      {found("t", call("out")), api.OK, api.ErrArgs},
		"too many arguments":                {found("t", call("out", 1, 2)), api.OK, api.ErrArgs},
		"arguments where there are none":    {found("t", call("push", 1)), api.OK, api.ErrArgs},
		"an argument that does not fit":     {found("t", call("out", 256)), api.OK, api.ErrArgs},
		"an argument of more than 64 bits":  {found("t", api.Call{Action: "out", Args: []api.Bits{{Hi: 1, Lo: 1}}}), api.OK, api.ErrArgs},
		"another table, which has the call": {found("u", call("more", 1, 2)), api.OK, api.ErrAction},
		"a default that is none":            {missed("t", call("none", 1)), api.OK, api.ErrArgs},
	} {
		asked := 0
		from := source(func(string, []api.Bits) (api.Hit, api.Errno) {
			asked++
			return x.hit, x.e
		})
		checkResult(t, what, p.Run(from, ns(9), "\x01\x02"), api.Result{Error: x.want, Rounds: 1})
		if asked != 1 {
			t.Errorf("%s: it was asked %d times", what, asked)
		}
	}
	// The hit stands in the trace as it was answered, whatever it says beside its call.
	as := func(h api.Hit) source {
		return func(string, []api.Bits) (api.Hit, api.Errno) { return h, api.OK }
	}
	checkRun(t, p, as(odd), nil, "\x01\x02", api.Result{Out: "\x01\x02", Meta: ns(3), Rounds: 1, Trace: []api.Hit{odd}})
	odd.Found = false
	checkRun(t, p, as(odd), nil, "\x01\x02", api.Result{Out: "\x01\x02", Meta: ns(3), Rounds: 1, Trace: []api.Hit{odd}})
	odd.Table = strings.Repeat("t", 100000)
	checkRun(t, p, as(odd), nil, "\x01\x02", api.Result{Out: "\x01\x02", Meta: ns(3), Rounds: 1, Trace: []api.Hit{odd}})
}

// TestCallCounts: the hit's call is done, not its entry's; Found alone says which stages come next.
func TestCallCounts(t *testing.T) {
	s := schemaOf(t, tableList("a", "b", "c")+"control { apply a { apply b; } else { apply c; } }")
	p := ready(t, s)
	for _, is := range []bool{true, false} {
		from := source(func(table string, _ []api.Bits) (api.Hit, api.Errno) {
			if table != "a" {
				return missed(table, call("f")), api.OK
			}
			return api.Hit{Table: "b", Found: is, Entry: api.Entry{Call: call("none")}, Call: call("exit_not", 9)}, api.OK
		})
		next := "c 9"
		if is {
			next = "b 9"
		}
		checkTrace(t, p, from, nil, "\x01", "a 1", next)
		if r := p.Run(from, nil, "\x01"); r.Drop || r.Out != "\x09" {
			t.Errorf("%v: %s", is, short(r))
		}
	}
}

// TestAskedOnce: each table is asked once, though it is asked again in another pass.
func TestAskedOnce(t *testing.T) {
	s := schemaOf(t, tableList("a", "b")+"control { apply a; apply b; }")
	p := ready(t, s)
	counts := map[string]int{}
	from := source(func(table string, _ []api.Bits) (api.Hit, api.Errno) {
		counts[table]++
		return missed(table, call("round")), api.OK
	})
	if r := p.Run(from, nil, "\x01"); r.Rounds != 4 || counts["a"] != 4 || counts["b"] != 4 || len(counts) != 2 {
		t.Errorf("%d passes, %v", r.Rounds, counts)
	}
}
