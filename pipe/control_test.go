package pipe_test

import (
	"fmt"
	"strconv"
	"strings"
	"testing"

	"turnout/api"
	"turnout/pipe"
)

// P16.1

// TestNew: a schema that is not sound has no pipe.
func TestNew(t *testing.T) {
	for what, change := range map[string]func(s *api.Schema){
		"a header's name":   func(s *api.Schema) { s.Headers[0].Name = "Eth" },
		"a width":           func(s *api.Schema) { s.Headers[0].Fields[0].Width = 129 },
		"half a byte":       func(s *api.Schema) { s.Headers[0].Fields[0].Width = 4 },
		"metadata":          func(s *api.Schema) { s.Meta = append(s.Meta, s.Meta[0]) },
		"a state":           func(s *api.Schema) { s.States[0].Next = "x" },
		"a step":            func(s *api.Schema) { s.Actions[0].Steps[0].Kind = 7 },
		"a key":             func(s *api.Schema) { s.Tables[0].Keys[0].Ref.Name = "x" },
		"a default":         func(s *api.Schema) { s.Tables[0].Default.Args = ns(1) },
		"a size":            func(s *api.Schema) { s.Tables[0].Size = 0 },
		"a stage":           func(s *api.Schema) { s.Control[0].Kind = 0 },
		"a stage's table":   func(s *api.Schema) { s.Control[0].Table = "u" },
		"a table twice":     func(s *api.Schema) { s.Control = append(s.Control, s.Control[0]) },
		"a test of nothing": func(s *api.Schema) { s.Control[0] = api.Stage{Kind: api.StageIf} },
	} {
		s := schemaOf(t, small)
		change(&s)
		if p, e := pipe.New(s); p != nil || e != api.ErrSchema {
			t.Errorf("%s: %v %d", what, p, e)
		}
	}
	for _, s := range []api.Schema{{}, schemaOf(t, small), schemaOf(t, steps), {Meta: []api.Field{{Name: "m", Width: 1}}}} {
		ready(t, s)
	}
}

// TestNoStages: a control without stages sends a packet on as it is put together, and asks nothing.
func TestNoStages(t *testing.T) {
	p := ready(t, api.Schema{})
	asks := func(string, []api.Bits) (api.Hit, api.Errno) {
		t.Error("it asks")
		return api.Hit{}, api.OK
	}
	checkRun(t, p, source(asks), ns(1, 2), "abc", api.Result{Out: "abc", Rounds: 1})
	checkRun(t, p, source(asks), nil, "", api.Result{Rounds: 1})
	// The second header stands ahead of the first one in the schema: so it goes on ahead of it.
	p = ready(t, schemaOf(t, "header b { x: 8; } header a { x: 16; } meta { m: 4; n: 8; } state s { take a; else t; } state t { take b; else accept; }"))
	checkRun(t, p, source(asks), ns(0x1f), "123rest", api.Result{Out: "312rest", Meta: ns(0xf, 0), Rounds: 1})
}

// P16.3: the way's words

// TestKeys: what is asked, and with which values; a field of a header that is not there counts as 0.
func TestKeys(t *testing.T) {
	s := schemaOf(t, `
header h { a: 8; b: 16; }
header g { x: 128; y: 8; }
meta { m: 9; }
state s { take h; on h.a { 1: more; } else accept; }
state more { take g; else accept; }
action f() { h.b = h.b + 1; meta.m = meta.m - 1; remove g; }
table t { key h.b exact; key g.x ternary; key meta.m range; key h.a exact; key h.b exact; can f; size 1; default f(); }
table u { key meta.m prefix; can f; size 1; default f(); }
table v { key h.b exact; key g.y exact; can f; size 1; default f(); }
control { apply u; apply t { exit; } else { apply v; } }`)
	p, from := ready(t, s), set(t, s, nil)
	checkTrace(t, p, from, nil, "\x00\x01\x02", "u 0", "t 103 0 1ff 0 103", "v 104 0")
	checkTrace(t, p, from, ns(0x3ff, 7), "\x01\xff\xff0123456789abcdef\x77rest", "u 1ff", "t 0 0 1fe 1 0", "v 1 0")
	checkTrace(t, p, from, nil, "\x00\x01")
	once := func(table string, key []api.Bits) (api.Hit, api.Errno) {
		if table == "u" {
			return api.Hit{}, 1000
		}
		t.Errorf("%s is asked", table)
		return api.Hit{}, api.OK
	}
	checkTrace(t, p, source(once), nil, "\x00\x01\x02", "u 0")
}

// TestTests: each test, of values that are less, the same and greater, of fields, constants, the metadata, and of headers that are not there.
func TestTests(t *testing.T) {
	holds := map[string]func(a, b int) bool{
		"==": func(a, b int) bool { return a == b },
		"!=": func(a, b int) bool { return a != b },
		"<":  func(a, b int) bool { return a < b },
		"<=": func(a, b int) bool { return a <= b },
	}
	for sign, want := range holds {
		for _, pair := range []string{"h.a h.b", "h.b h.a", "h.a 5", "5 h.a", "meta.m h.b", "h.a g.x", "g.x h.a", "g.x 0", "0 g.x", "h.a h.a"} {
			one, other, _ := strings.Cut(pair, " ")
			text := fmt.Sprintf(`header h { a: 8; b: 8; } header g { x: 8; } meta { m: 8; w: 8; } state s { take h; else accept; }
action f() { } table yes { key h.a exact; can f; size 1; default f(); } table no { key h.a exact; can f; size 1; default f(); } table end { key h.b exact; can f; size 1; default f(); }
control { if %s %s %s { apply yes; } else { apply no; } apply end; }`, one, sign, other)
			s := schemaOf(t, text)
			p, from := ready(t, s), set(t, s, nil)
			for i := range 125 {
				a, b, m := []int{0, 4, 5, 6, 255}[i%5], []int{0, 4, 5, 6, 255}[i/5%5], []int{0, 4, 5, 6, 255}[i/25]
				value := map[string]int{"h.a": a, "h.b": b, "meta.m": m, "5": 5}
				table := "no "
				if want(value[one], value[other]) {
					table = "yes "
				}
				checkTrace(t, p, from, ns(uint64(m)), string([]byte{byte(a), byte(b)}), table+strconv.FormatInt(int64(a), 16), "end "+strconv.FormatInt(int64(b), 16))
			}
		}
	}
}

// TestWideTests: values are compared as a whole.
func TestWideTests(t *testing.T) {
	s := schemaOf(t, `header h { a: 128; b: 128; } state s { take h; else accept; } action f() { }
table less { key h.a exact; can f; size 1; default f(); } table same { key h.a exact; can f; size 1; default f(); }
control { if h.a < h.b { apply less; } if h.a == h.b { apply same; } }`)
	p, from := ready(t, s), set(t, s, nil)
	low := strings.Repeat("\x00", 15) + "\x01"
	high := "\x01" + strings.Repeat("\x00", 15)
	checkTrace(t, p, from, nil, low+high, "less 1")
	checkTrace(t, p, from, nil, high+low)
	checkTrace(t, p, from, nil, high+high, "same 1000000000000000000000000000000")
	checkTrace(t, p, from, nil, low+low, "same 1")
}

// TestValid: a header is there or not, whatever its fields are, also behind what actions added and removed.
func TestValid(t *testing.T) {
	s := schemaOf(t, `
header h { a: 8; }
header g { x: 8; }
meta { m: 8; }
state s { take h; on h.a { 1: more; } else accept; }
state more { take g; else accept; }
action fill() { add g; }
action clear() { remove g; remove h; }
action f() { }
table a { key meta.m exact; can fill, clear, f; size 1; default f(); }
table b { key meta.m exact; can f; size 1; default f(); }
table c { key meta.m exact; can f; size 1; default f(); }
table d { key meta.m exact; can f; size 1; default f(); }
control { if valid g { apply b; } else { apply c; } apply a; if valid g { apply d; } if valid h { } else { exit; } }`)
	p := ready(t, s)
	for _, x := range []struct {
		action, packet string
		want           []string
	}{
		{"f", "\x00", []string{"c 0", "a 0"}},
		{"fill", "\x00", []string{"c 0", "a 0", "d 0"}},
		{"clear", "\x00", []string{"c 0", "a 0"}},
		{"f", "\x01\x00", []string{"b 0", "a 0", "d 0"}},
		{"fill", "\x01\x05", []string{"b 0", "a 0", "d 0"}},
		{"clear", "\x01\x05", []string{"b 0", "a 0"}},
	} {
		from := source(func(table string, _ []api.Bits) (api.Hit, api.Errno) {
			if table == "a" {
				return missed(table, call(x.action)), api.OK
			}
			return missed(table, call("f")), api.OK
		})
		checkTrace(t, p, from, nil, x.packet, x.want...)
	}
}

// tableList is the text of an action f, which does nothing, one that says again and one that drops, and of tables of these names.
func tableList(names ...string) string {
	text := "header h { a: 8; } meta { m: 8; } state s { take h; else accept; } action f() { } action round() { meta.m = meta.m + 1; again; } action none() { drop; } action exit_not(p: 8) { h.a = p; }\n"
	for _, name := range names {
		text += "table " + name + " { key h.a exact; can f, round, none, exit_not; size 9; default f(); }\n"
	}
	return text
}

// TestStages: the stages in order: Then or Else, what stands behind them, and where the pass ends.
func TestStages(t *testing.T) {
	s := schemaOf(t, tableList("a", "b", "c", "d", "e", "g", "k")+`
control {
  apply a { apply b { exit; } apply c; } else { if h.a == 1 { exit; apply k; } else { apply d; } }
  apply e;
  exit;
  apply g;
}`)
	p := ready(t, s)
	for _, x := range []struct {
		hits, packet string
		want         []string
	}{
		{"", "\x00", []string{"a 0", "d 0", "e 0"}},
		{"", "\x01", []string{"a 1"}},
		{"a", "\x01", []string{"a 1", "b 1", "c 1", "e 1"}},
		{"a b", "\x01", []string{"a 1", "b 1"}},
		{"b c d e g", "\x00", []string{"a 0", "d 0", "e 0"}},
		{"a c d e g", "\x00", []string{"a 0", "b 0", "c 0", "e 0"}},
	} {
		from := source(func(table string, _ []api.Bits) (api.Hit, api.Errno) {
			return api.Hit{Table: table, Found: strings.Contains(x.hits, table), Call: call("f")}, api.OK
		})
		checkTrace(t, p, from, nil, x.packet, x.want...)
	}
}

// said is a source that answers each table, asked for the i-th time, with the i-th of its calls, or with the last one: a word is the action's name.
func said(calls map[string]string) source {
	asked := map[string]int{}
	return func(table string, _ []api.Bits) (api.Hit, api.Errno) {
		list := strings.Fields(calls[table])
		i := min(asked[table], len(list)-1)
		asked[table]++
		if list[i] == "error" {
			return found(table, call("f")), 1000
		}
		return found(table, call(list[i])), api.OK
	}
}

// TestRounds: which packets go again.
func TestRounds(t *testing.T) {
	s := schemaOf(t, tableList("a", "b")+"control { apply a; if meta.m == 200 { exit; } apply b; }")
	p := ready(t, s)
	for _, x := range []struct {
		a, b  string
		in    uint64
		want  api.Result
		trace string
	}{
		{a: "f", b: "f", want: api.Result{Out: "\x07", Meta: ns(0), Rounds: 1}, trace: "a:f b:f"},
		{a: "round f", b: "f", want: api.Result{Out: "\x07", Meta: ns(1), Rounds: 2}, trace: "a:round b:f a:f b:f"},
		{a: "f", b: "round round f", want: api.Result{Out: "\x07", Meta: ns(2), Rounds: 3}, trace: "a:f b:round a:f b:round a:f b:f"},
		{a: "round f", b: "f round f", want: api.Result{Out: "\x07", Meta: ns(2), Rounds: 3}, trace: "a:round b:f a:f b:round a:f b:f"},
		{a: "f f f round", b: "round round round f", want: api.Result{Out: "\x07", Meta: ns(4), Rounds: 4}, trace: "a:f b:round a:f b:round a:f b:round a:round b:f"},
		{a: "round", b: "round", want: api.Result{Out: "\x07", Meta: ns(8), Rounds: 4}, trace: "a:round b:round a:round b:round a:round b:round a:round b:round"},
		{a: "none", b: "f", want: api.Result{Drop: true, Meta: ns(0), Rounds: 1}, trace: "a:none b:f"},
		{a: "none", b: "round", want: api.Result{Drop: true, Meta: ns(1), Rounds: 1}, trace: "a:none b:round"},
		{a: "round", b: "none", want: api.Result{Drop: true, Meta: ns(1), Rounds: 1}, trace: "a:round b:none"},
		{a: "round", b: "f none", want: api.Result{Drop: true, Meta: ns(2), Rounds: 2}, trace: "a:round b:f a:round b:none"},
		{a: "round none", b: "f round", want: api.Result{Drop: true, Meta: ns(2), Rounds: 2}, trace: "a:round b:f a:none b:round"},
		// An exit ends a pass, and another one may be behind it.
		{a: "round", b: "f", in: 199, want: api.Result{Out: "\x07", Meta: ns(203), Rounds: 4}, trace: "a:round a:round b:f a:round b:f a:round b:f"},
		{a: "error", b: "f", want: api.Result{Error: 1000, Rounds: 1}},
		{a: "f", b: "error", want: api.Result{Error: 1000, Rounds: 1}, trace: "a:f"},
		{a: "none", b: "error", want: api.Result{Error: 1000, Rounds: 1}, trace: "a:none"},
		{a: "round error", b: "f", want: api.Result{Error: 1000, Rounds: 2}, trace: "a:round b:f"},
		{a: "round", b: "f f f error", want: api.Result{Error: 1000, Rounds: 4}, trace: "a:round b:f a:round b:f a:round b:f a:round"},
		{a: "round other", b: "f", want: api.Result{Error: api.ErrAction, Rounds: 2}, trace: "a:round b:f"},
		{a: "round exit_not", b: "f", want: api.Result{Error: api.ErrArgs, Rounds: 2}, trace: "a:round b:f"},
	} {
		for word := range strings.FieldsSeq(x.trace) {
			table, action, _ := strings.Cut(word, ":")
			x.want.Trace = append(x.want.Trace, found(table, call(action)))
		}
		got := p.Run(said(map[string]string{"a": x.a, "b": x.b}), ns(x.in), "\x07")
		checkResult(t, x.a+", "+x.b, got, x.want)
	}
}

// TestGoesOnAsItIs: the next pass is over the headers and the metadata as they are then.
func TestGoesOnAsItIs(t *testing.T) {
	s := schemaOf(t, `
header h { a: 8; }
header g { x: 8; }
meta { m: 8; }
state s { take h; else accept; }
action step() { add g; g.x = h.a; h.a = h.a + 16; meta.m = meta.m + g.x; again; }
table t { key h.a exact; key g.x exact; key meta.m exact; can step; size 1; default step(); }
control { if h.a != 0x30 { apply t; } else { if valid g { exit; } } }`)
	p, from := ready(t, s), set(t, s, nil)
	checkTrace(t, p, from, ns(5), "\x10!", "t 10 0 5", "t 20 10 15")
	checkTrace(t, p, from, ns(0), "\x00!", "t 0 0 0", "t 10 0 0", "t 20 10 10")
	got := p.Run(from, ns(5), "\x10!")
	step := missed("t", call("step"))
	checkResult(t, "three passes", got, api.Result{Out: "\x30\x20!", Meta: ns(0x35), Rounds: 3, Trace: []api.Hit{step, step}})
}

// P16.3: the errors

// TestParseErrors: those of wire.Parse: all else is zero, and nothing is asked.
func TestParseErrors(t *testing.T) {
	s := schemaOf(t, `
header h { a: 8; b: 8; }
header g { x: 16; }
meta { m: 8; }
state s { take h; on h.a { 1: more; 2: twice; 3: reject; } else accept; }
state more { take g; else accept; }
state twice { take h; else accept; }
action f() { drop; }
table t { key h.a exact; can f; size 1; default f(); }
control { apply t; }`)
	p := ready(t, s)
	asks := source(func(string, []api.Bits) (api.Hit, api.Errno) {
		t.Error("it asks")
		return api.Hit{}, api.OK
	})
	for packet, e := range map[string]api.Errno{
		"":                                     api.ErrShort,
		"\x00":                                 api.ErrShort,
		"\x01\x00":                             api.ErrShort,
		"\x01\x00\x00":                         api.ErrShort,
		"\x02\x00\x00\x00":                     api.ErrAgain,
		"\x03\x00":                             api.ErrReject,
		"\x03\x00" + strings.Repeat("x", 2047): api.ErrLong,
		strings.Repeat("\x00", 2049):           api.ErrLong,
	} {
		checkRun(t, p, asks, ns(1), packet, api.Result{Error: e})
		checkRun(t, p, nil, ns(1), packet, api.Result{Error: api.ErrArg})
	}
	checkRun(t, p, set(t, s, nil), ns(1), strings.Repeat("\x00", 2048), api.Result{Drop: true, Meta: ns(1), Rounds: 1, Trace: []api.Hit{missed("t", call("f"))}})
}

// TestOutLong: a packet that came to be too long; one that is dropped is never.
func TestOutLong(t *testing.T) {
	s := schemaOf(t, `
header h { a: 8; }
header g { x: 8; y: 8; }
meta { m: 8; }
state s { take h; else accept; }
action grow() { add g; meta.m = 1; again; }
action both() { add g; meta.m = 2; drop; }
action part() { add g; remove h; meta.m = 3; }
table t { key h.a exact; can grow, both, part; size 9; default grow(); }
control { apply t; }`)
	p, from := ready(t, s), set(t, s, map[uint64]api.Call{1: call("both"), 2: call("part")})
	grown := []api.Hit{missed("t", call("grow")), missed("t", call("grow")), missed("t", call("grow")), missed("t", call("grow"))}
	rest := func(bytes int) string { return strings.Repeat("r", bytes) }
	checkRun(t, p, from, nil, "\x00"+rest(2045), api.Result{Out: "\x00\x00\x00" + rest(2045), Meta: ns(1), Rounds: 4, Trace: grown})
	checkRun(t, p, from, nil, "\x00"+rest(2046), api.Result{Error: api.ErrLong, Rounds: 4, Trace: grown})
	checkRun(t, p, from, nil, "\x00"+rest(2047), api.Result{Error: api.ErrLong, Rounds: 4, Trace: grown})
	checkRun(t, p, from, nil, "\x01"+rest(2047), api.Result{Drop: true, Meta: ns(2), Rounds: 1, Trace: []api.Hit{inT(1, call("both"))}})
	checkRun(t, p, from, nil, "\x02"+rest(2046), api.Result{Out: "\x00\x00" + rest(2046), Meta: ns(3), Rounds: 1, Trace: []api.Hit{inT(2, call("part"))}})
	checkRun(t, p, from, nil, "\x02"+rest(2047), api.Result{Error: api.ErrLong, Rounds: 1, Trace: []api.Hit{inT(2, call("part"))}})
}
