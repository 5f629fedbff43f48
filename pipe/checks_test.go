package pipe_test

import (
	"fmt"
	"math"
	"reflect"
	"slices"
	"strings"
	"testing"

	"turnout/api"
	"turnout/pipe"
	"turnout/syntax"
	"turnout/tables"
)

var most = api.Bits{Hi: math.MaxUint64, Lo: math.MaxUint64}

func ref(head, name string) api.Ref { return api.Ref{Head: head, Name: name} }

func n(x uint64) api.Bits { return api.Bits{Lo: x} }

// ns are values of small numbers.
func ns(list ...uint64) []api.Bits {
	var out []api.Bits
	for _, x := range list {
		out = append(out, n(x))
	}
	return out
}

func call(action string, args ...uint64) api.Call {
	return api.Call{Action: action, Args: ns(args...)}
}

func head(name string, values ...uint64) api.Filled {
	return api.Filled{Name: name, Values: ns(values...)}
}

// found and missed are what a source answers of a table.
func found(table string, c api.Call) api.Hit {
	return api.Hit{Table: table, Found: true, Call: c, Entry: api.Entry{Call: c}}
}
func missed(table string, c api.Call) api.Hit { return api.Hit{Table: table, Call: c} }

// schemaOf reads a schema's text.
func schemaOf(t testing.TB, text string) api.Schema {
	t.Helper()
	s, fault := syntax.Schema(text)
	if fault != (api.Fault{}) {
		t.Fatalf("%v", fault)
	}
	return s
}

// ready is a pipe of a sound schema.
func ready(t testing.TB, s api.Schema) *pipe.Pipe {
	t.Helper()
	p, e := pipe.New(s)
	if p == nil || e != api.OK {
		t.Fatalf("New: %v %d", p, e)
	}
	return p
}

// set is a set of tables of a schema. The calls go into its table t, whose key is exact, under the values that stand ahead of them.
func set(t testing.TB, s api.Schema, calls map[uint64]api.Call) *tables.Set {
	t.Helper()
	x, e := tables.New(s)
	if e != api.OK {
		t.Fatalf("New: %d", e)
	}
	for value, c := range calls {
		entry := api.Entry{Match: []api.Match{{Value: n(value)}}, Call: c}
		if _, e := x.Do(api.Op{Kind: api.Insert, Table: "t", Entry: entry}); e != api.OK {
			t.Fatalf("Do: %d", e)
		}
	}
	return x
}

// A source answers lookups by a function.
type source func(table string, key []api.Bits) (api.Hit, api.Errno)

func (f source) Lookup(table string, key ...api.Bits) (api.Hit, api.Errno) { return f(table, key) }

// always answers each table with the same hit, told of that table.
func always(h api.Hit) source {
	return func(table string, _ []api.Bits) (api.Hit, api.Errno) {
		h.Table = table
		return h, api.OK
	}
}

// An asker notes what is asked.
type asker struct {
	pipe.Source
	asked []string
}

func (a *asker) Lookup(table string, key ...api.Bits) (api.Hit, api.Errno) {
	a.asked = append(a.asked, table+" "+numbers(key))
	return a.Source.Lookup(table, key...)
}

// numbers are values as numbers in sixteens, with blanks between.
func numbers(list []api.Bits) string {
	var out []string
	for _, a := range list {
		if a.Hi != 0 {
			out = append(out, fmt.Sprintf("%x%016x", a.Hi, a.Lo))
		} else {
			out = append(out, fmt.Sprintf("%x", a.Lo))
		}
	}
	return strings.Join(out, " ")
}

// plain is a copy, by no call of the program, in which all empty lists are nil.
func plain[T any](x T) T { return deep(reflect.ValueOf(x)).Interface().(T) }

func deep(v reflect.Value) reflect.Value {
	out := reflect.New(v.Type()).Elem()
	switch v.Kind() {
	case reflect.Struct:
		for i := range v.NumField() {
			out.Field(i).Set(deep(v.Field(i)))
		}
	case reflect.Slice:
		if v.Len() > 0 {
			out.Set(reflect.MakeSlice(v.Type(), v.Len(), v.Len()))
		}
		for i := range v.Len() {
			out.Index(i).Set(deep(v.Index(i)))
		}
	case reflect.String:
		out.SetString(strings.Clone(v.String()))
	default:
		out.Set(v)
	}
	return out
}

// alike: two things are the same, nil and empty lists one.
func alike(a, b any) bool {
	return reflect.DeepEqual(deep(reflect.ValueOf(a)).Interface(), deep(reflect.ValueOf(b)).Interface())
}

// short is a thing as a text, cut.
func short(x any) string {
	text := fmt.Sprintf("%+v", x)
	return text[:min(len(text), 2000)]
}

func checkResult(t *testing.T, what string, got, want api.Result) {
	t.Helper()
	if !alike(got, want) {
		t.Errorf("%s: %s\nwant %s", what, short(got), short(want))
	}
}

// checkRun holds the result of a packet against what is wanted; Many of it tells the same.
func checkRun(t *testing.T, p *pipe.Pipe, from pipe.Source, in []api.Bits, packet string, want api.Result) {
	t.Helper()
	what := fmt.Sprintf("%.20q", packet)
	checkResult(t, what, p.Run(from, in, packet), want)
	list := p.Many(from, in, packet)
	if len(list) != 1 {
		t.Fatalf("%s: Many tells %d", what, len(list))
	}
	checkResult(t, "Many of "+what, list[0], want)
}

// checkTrace holds what was asked, and with which keys, against what is wanted.
func checkTrace(t *testing.T, p *pipe.Pipe, from pipe.Source, in []api.Bits, packet string, want ...string) {
	t.Helper()
	a := &asker{Source: from}
	r := p.Run(a, in, packet)
	if !slices.Equal(a.asked, want) {
		t.Errorf("%.20q: %q was asked, not %q", packet, a.asked, want)
	}
	if r.Error == api.OK && len(r.Trace) != len(want) {
		t.Errorf("%.20q: the trace has %d", packet, len(r.Trace))
	}
}

// checkAct holds what an action does against what is wanted. The packet that was handed in stays as it was.
func checkAct(t *testing.T, p *pipe.Pipe, c api.Call, k, want api.Packet, drop, again bool) {
	t.Helper()
	was := plain(k)
	got, d, a, e := p.Act(c, k)
	if e != api.OK || d != drop || a != again || !alike(got, want) {
		t.Errorf("Act(%s, %s): %s %v %v %d\nwant %s %v %v", short(c), short(k), short(got), d, a, e, short(want), drop, again)
	}
	if !alike(k, was) {
		t.Errorf("Act(%s): the packet was changed: %s", short(c), short(k))
	}
}

// checkNoAct: an action is refused, and nothing is told beside the error.
func checkNoAct(t *testing.T, p *pipe.Pipe, c api.Call, k api.Packet, want api.Errno) {
	t.Helper()
	got, drop, again, e := p.Act(c, k)
	if e != want || drop || again || !reflect.DeepEqual(got, api.Packet{}) {
		t.Errorf("Act(%s, %s): %s %v %v %d, not %d", short(c), short(k), short(got), drop, again, e, want)
	}
}
