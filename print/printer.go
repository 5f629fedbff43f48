package print

import (
	"strings"

	"turnout/api"
)

// A printer gathers the lines of a sound schema's things.
type printer struct {
	strings.Builder
	schema api.Schema
	open   int // the braces that are open
}

// A thing of a schema has the name by which one asks for it, and what writes its lines.
type thing struct {
	name  string
	write func()
}

// things are the schema's things, in order.
func (p *printer) things() []thing {
	var list []thing
	add := func(name string, write func()) { list = append(list, thing{name: name, write: write}) }
	for _, h := range p.schema.Headers {
		add("header "+h.Name, func() { p.header(h) })
	}
	if len(p.schema.Meta) > 0 {
		add("meta", p.meta)
	}
	for _, s := range p.schema.States {
		add("state "+s.Name, func() { p.state(s) })
	}
	for _, a := range p.schema.Actions {
		add("action "+a.Name, func() { p.action(a) })
	}
	for _, t := range p.schema.Tables {
		add("table "+t.Name, func() { p.table(t) })
	}
	if len(p.schema.Control) > 0 {
		add("control", p.control)
	}
	return list
}

// line writes a line. Its own braces tell how far it and those behind it stand in, so that nobody else needs to count them.
func (p *printer) line(parts ...string) {
	text := strings.Join(parts, "")
	if strings.HasPrefix(text, "}") {
		p.open--
	}
	p.WriteString(strings.Repeat("  ", p.open))
	p.WriteString(text)
	p.WriteByte('\n')
	if strings.HasSuffix(text, "{") {
		p.open++
	}
}

// each writes all things of a list, by what is handed over.
func each[T any](list []T, write func(T)) {
	for _, x := range list {
		write(x)
	}
}

// joined are the texts of all things of a list, with commas between them.
func joined[T any](list []T, text func(T) string) string {
	var texts []string
	for _, x := range list {
		texts = append(texts, text(x))
	}
	return strings.Join(texts, ", ")
}
