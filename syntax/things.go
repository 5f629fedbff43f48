package syntax

import (
	"turnout/api"
	"turnout/lex"
	"turnout/schema"
)

// keyKinds are the words for the kinds of a key's part.
var keyKinds = [...]struct {
	word string
	kind int
}{{"exact", api.Exact}, {"prefix", api.Prefix}, {"ternary", api.Ternary}, {"range", api.Range}}

// readThings reads things up to the text's end.
func (r *reader) readThings() {
	for !r.atEnd() {
		r.readThing()
	}
}

func (r *reader) readThing() {
	first := r.word()
	s := &r.schema
	switch first.Text {
	case "header":
		s.Headers = append(s.Headers, api.Header{Name: r.named(first), Fields: r.fields()})
	case "meta":
		r.noteOnce(first)
		s.Meta = r.fields()
	case "state":
		s.States = append(s.States, r.state(r.named(first)))
	case "action":
		s.Actions = append(s.Actions, r.action(r.named(first)))
	case "table":
		s.Tables = append(s.Tables, r.table(r.named(first)))
	case "control":
		r.noteOnce(first)
		s.Control = r.stages()
	default:
		refuse(first)
	}
}

// named reads the name of a thing, and notes where the thing begins.
func (r *reader) named(first lex.Token) string {
	name := r.name()
	r.note(first.Text, first.At)
	r.note(first.Text+" "+name, first.At)
	return name
}

// noteOnce notes where a thing begins of which a text has no second one.
func (r *reader) noteOnce(first lex.Token) {
	if !r.note(first.Text, first.At) {
		refuse(first)
	}
}

// note notes where a thing begins; it tells whether it is the first one that is called so.
func (r *reader) note(thing string, at api.Pos) bool {
	if _, met := r.places[thing]; met {
		return false
	}
	r.places[thing] = at
	return true
}

// field reads a field of a header or of the metadata, but for its end, or a parameter.
func (r *reader) field() api.Field {
	name := r.name()
	r.need(":")
	return api.Field{Name: name, Width: r.whole()}
}

func (r *reader) fields() []api.Field {
	var list []api.Field
	r.inBraces(func() {
		list = append(list, r.field())
		r.need(";")
	})
	return list
}

// state reads a state behind its name.
func (r *reader) state(name string) api.State {
	r.need("{")
	r.need("take")
	s := api.State{Name: name, Header: r.name()}
	r.need(";")
	var bare []int
	if r.take("on") {
		s.On = r.ref()
		s.Cases, bare = r.cases()
	}
	r.bare = append(r.bare, bare)
	r.need("else")
	s.Next = r.next()
	r.need(";")
	r.need("}")
	return s
}

// cases reads a state's cases, and tells which of them have no mask.
func (r *reader) cases() (list []api.Case, bare []int) {
	r.inBraces(func() {
		c := api.Case{Value: r.number()}
		if r.take("&") {
			c.Mask = r.number()
		} else {
			bare = append(bare, len(list))
		}
		r.need(":")
		c.Next = r.next()
		r.need(";")
		list = append(list, c)
	})
	return list, bare
}

// next reads where the parser goes on.
func (r *reader) next() string {
	switch r.ahead().Text {
	case "accept", "reject":
		return r.word().Text
	}
	return r.name()
}

// fillMasks gives the cases without a mask all ones of their field's width. They wait till all was read, for the field may stand behind the state.
func (r *reader) fillMasks() {
	for i, bare := range r.bare {
		state := &r.schema.States[i]
		mask := ones(schema.Width(r.schema, state.On))
		for _, j := range bare {
			state.Cases[j].Mask = mask
		}
	}
}

// ones are all ones of a width; of the width 0, that of no field, all 128.
func ones(width int) api.Bits {
	const all uint64 = 1<<64 - 1
	switch {
	case width == 0:
		return api.Bits{Hi: all, Lo: all}
	case width > 64:
		return api.Bits{Hi: all >> (api.MaxWidth - width), Lo: all}
	}
	return api.Bits{Lo: all >> (64 - width)}
}

// table reads a table behind its name.
func (r *reader) table(name string) api.Table {
	t := api.Table{Name: name}
	r.need("{")
	for r.take("key") {
		t.Keys = append(t.Keys, r.key())
	}
	r.need("can")
	r.withCommas(func() { t.Actions = append(t.Actions, r.name()) })
	r.need(";")
	r.need("size")
	t.Size = r.whole()
	r.need(";")
	r.need("default")
	t.Default = r.call()
	t.Fixed = r.take("fixed")
	r.need(";")
	r.need("}")
	return t
}

// key reads a part of a table's key behind its first word.
func (r *reader) key() api.Key {
	k := api.Key{Ref: r.ref()}
	word := r.word()
	for _, x := range keyKinds {
		if x.word == word.Text {
			k.Kind = x.kind
		}
	}
	if k.Kind == 0 {
		refuse(word)
	}
	r.need(";")
	return k
}

func (r *reader) call() api.Call {
	c := api.Call{Action: r.name()}
	r.inBrackets(func() { c.Args = append(c.Args, r.number()) })
	return c
}
