package print

import (
	"strconv"
	"strings"

	"turnout/api"
	"turnout/schema"
	"turnout/value"
)

// keyWords are the words for the kinds of a key's part.
var keyWords = [...]string{api.Exact: "exact", api.Prefix: "prefix", api.Ternary: "ternary", api.Range: "range"}

func (p *printer) header(h api.Header) {
	p.line("header ", h.Name, " {")
	each(h.Fields, p.field)
	p.line("}")
}

func (p *printer) meta() {
	p.line("meta {")
	each(p.schema.Meta, p.field)
	p.line("}")
}

func (p *printer) field(f api.Field) { p.line(fieldText(f), ";") }

// fieldText is the text of a field, but for its end, or of a parameter.
func fieldText(f api.Field) string { return f.Name + ": " + strconv.Itoa(f.Width) }

func (p *printer) state(s api.State) {
	p.line("state ", s.Name, " {")
	p.line("take ", s.Header, ";")
	if s.On != (api.Ref{}) {
		p.cases(s)
	}
	p.line("else ", s.Next, ";")
	p.line("}")
}

// cases writes what a state looks at, with its cases. A mask of all ones is the one that is read where none stands.
func (p *printer) cases(s api.State) {
	ones, _ := value.Most(schema.Width(p.schema, s.On))
	p.line("on ", refText(s.On), " {")
	for _, c := range s.Cases {
		mask := ""
		if c.Mask != ones {
			mask = " & " + Value(c.Mask)
		}
		p.line(Value(c.Value), mask, ": ", c.Next, ";")
	}
	p.line("}")
}

func (p *printer) table(t api.Table) {
	p.line("table ", t.Name, " {")
	for _, k := range t.Keys {
		p.line("key ", refText(k.Ref), " ", keyWords[k.Kind], ";")
	}
	p.line("can ", strings.Join(t.Actions, ", "), ";")
	p.line("size ", strconv.Itoa(t.Size), ";")
	fixed := ""
	if t.Fixed {
		fixed = " fixed"
	}
	p.line("default ", callText(t.Default), fixed, ";")
	p.line("}")
}

func callText(c api.Call) string { return c.Action + "(" + joined(c.Args, Value) + ")" }

// refText is the text of a reference; that of a parameter is its name alone.
func refText(r api.Ref) string {
	if r.Head == "" {
		return r.Name
	}
	return r.Head + "." + r.Name
}

func operandText(o api.Operand) string {
	if o.Ref == (api.Ref{}) {
		return Value(o.Const)
	}
	return refText(o.Ref)
}
