package print_test

import (
	"math/big"
	"math/rand"
	"slices"
	"strconv"
	"strings"

	"turnout/api"
)

// A teller tells the words of a schema's things, as chapter 8's grammar has them. With a chance it chooses where the grammar lets one choose and says the same schema; without one it chooses as the chapter says.
type teller struct {
	schema api.Schema
	chance *rand.Rand
	words  []string
}

// maybe is whether something that need not be written is.
func (m *teller) maybe() bool { return m.chance != nil && m.chance.Intn(3) == 0 }

func (m *teller) tell(words ...string) { m.words = append(m.words, words...) }

func (m *teller) number(a api.Bits) {
	if m.chance == nil {
		m.tell(modelValue(a))
		return
	}
	x := new(big.Int).SetUint64(a.Hi)
	x.Lsh(x, 64).Add(x, new(big.Int).SetUint64(a.Lo))
	m.tell([]string{x.Text(10), "0x" + x.Text(16), "0x00" + strings.ToUpper(x.Text(16)), "0b" + x.Text(2), "0b0" + x.Text(2)}[m.chance.Intn(5)])
}

// list tells things with commas between them.
func list[T any](m *teller, things []T, tell func(T)) {
	for i, x := range things {
		if i > 0 {
			m.tell(",")
		}
		tell(x)
	}
}

func (m *teller) field(f api.Field) {
	m.tell(f.Name, ":")
	m.number(n(uint64(f.Width)))
}

func (m *teller) fields(list []api.Field) {
	m.tell("{")
	for _, f := range list {
		m.field(f)
		m.tell(";")
	}
	m.tell("}")
}

func (m *teller) ref(r api.Ref) {
	if r.Head != "" {
		m.tell(r.Head, ".")
	}
	m.tell(r.Name)
}

func (m *teller) operand(o api.Operand) {
	if o.Ref.Head == "" && o.Ref.Name == "" {
		m.number(o.Const)
	} else {
		m.ref(o.Ref)
	}
}

// allOnes is the mask of all ones of a field's width.
func (m *teller) allOnes(r api.Ref) api.Bits {
	x := new(big.Int).Lsh(big.NewInt(1), uint(widthOf(m.schema, r)))
	x.Sub(x, big.NewInt(1))
	return api.Bits{Hi: new(big.Int).Rsh(x, 64).Uint64(), Lo: new(big.Int).And(x, new(big.Int).SetUint64(most.Lo)).Uint64()}
}

// widthOf is the width of a sound schema's field.
func widthOf(s api.Schema, r api.Ref) int {
	for _, h := range append([]api.Header{{Name: "meta", Fields: s.Meta}}, s.Headers...) {
		for _, f := range h.Fields {
			if h.Name == r.Head && f.Name == r.Name {
				return f.Width
			}
		}
	}
	return 0
}

func (m *teller) state(x api.State) {
	m.tell("state", x.Name, "{", "take", x.Header, ";")
	if x.On.Name != "" {
		m.tell("on")
		m.ref(x.On)
		m.tell("{")
		for _, c := range x.Cases {
			m.number(c.Value)
			if c.Mask != m.allOnes(x.On) || m.maybe() {
				m.tell("&")
				m.number(c.Mask)
			}
			m.tell(":", c.Next, ";")
		}
		m.tell("}")
	}
	m.tell("else", x.Next, ";", "}")
}

func (m *teller) action(x api.Action) {
	m.tell("action", x.Name, "(")
	list(m, x.Params, m.field)
	m.tell(")", "{")
	for _, s := range x.Steps {
		m.step(s)
		m.tell(";")
	}
	m.tell("}")
}

func (m *teller) step(s api.Step) {
	if s.Kind == api.StepSet {
		m.ref(s.To)
		m.tell("=")
		m.operand(s.A)
		if s.Op > 0 {
			m.tell(string(" +-&|^"[s.Op]))
			m.operand(s.B)
		}
		return
	}
	m.tell(strings.Fields("- set drop add remove sum again")[s.Kind])
	if s.To.Head != "" {
		m.tell(s.To.Head)
	}
	if s.To.Name != "" {
		m.tell(".", s.To.Name)
	}
}

func (m *teller) table(x api.Table) {
	m.tell("table", x.Name, "{")
	for _, k := range x.Keys {
		m.tell("key")
		m.ref(k.Ref)
		m.tell(strings.Fields("- exact prefix ternary range")[k.Kind], ";")
	}
	m.tell("can")
	list(m, x.Actions, func(name string) { m.tell(name) })
	m.tell(";", "size")
	m.number(n(uint64(x.Size)))
	m.tell(";", "default", x.Default.Action, "(")
	list(m, x.Default.Args, m.number)
	m.tell(")")
	if x.Fixed {
		m.tell("fixed")
	}
	m.tell(";", "}")
}

func (m *teller) stages(list []api.Stage) {
	m.tell("{")
	for _, x := range list {
		m.stage(x)
	}
	m.tell("}")
}

func (m *teller) stage(x api.Stage) {
	blocks := true
	switch x.Kind {
	case api.StageExit:
		m.tell("exit", ";")
		return
	case api.StageApply:
		m.tell("apply", x.Table)
		blocks = len(x.Then) > 0 || len(x.Else) > 0 || m.maybe()
	case api.StageIf:
		m.tell("if")
		m.test(x.Test)
	}
	if !blocks {
		m.tell(";")
		return
	}
	m.stages(x.Then)
	if len(x.Else) > 0 || m.maybe() {
		m.tell("else")
		m.stages(x.Else)
	}
}

func (m *teller) test(x api.Test) {
	if x.Kind == api.TestValid {
		m.tell("valid", x.A.Ref.Head)
		return
	}
	m.operand(x.A)
	m.tell(strings.Fields("- valid == != < <=")[x.Kind])
	m.operand(x.B)
}

// A modelThing is a thing's name and its words.
type modelThing struct {
	name  string
	words []string
}

// modelThings are a schema's things, in order.
func modelThings(s api.Schema, chance *rand.Rand) []modelThing {
	var all []modelThing
	thing := func(name string, tell func(*teller)) {
		m := &teller{schema: s, chance: chance}
		tell(m)
		all = append(all, modelThing{name, m.words})
	}
	for _, h := range s.Headers {
		thing("header "+h.Name, func(m *teller) {
			m.tell("header", h.Name)
			m.fields(h.Fields)
		})
	}
	if len(s.Meta) > 0 {
		thing("meta", func(m *teller) {
			m.tell("meta")
			m.fields(s.Meta)
		})
	}
	for _, x := range s.States {
		thing("state "+x.Name, func(m *teller) { m.state(x) })
	}
	for _, x := range s.Actions {
		thing("action "+x.Name, func(m *teller) { m.action(x) })
	}
	for _, x := range s.Tables {
		thing("table "+x.Name, func(m *teller) { m.table(x) })
	}
	if len(s.Control) > 0 {
		thing("control", func(m *teller) {
			m.tell("control")
			m.stages(s.Control)
		})
	}
	return all
}

// laid is a thing's text: its words, laid out in lines word by word.
func laid(words []string) string {
	var text strings.Builder
	open, last := 0, "\n"
	for i, w := range words {
		behind := append(slices.Clone(words[i+1:min(i+3, len(words))]), "", "")
		switch {
		case last == "\n" && w == "}":
			text.WriteString(strings.Repeat(" ", 2*open-2))
		case last == "\n":
			text.WriteString(strings.Repeat(" ", 2*open))
		case !strings.Contains(";:,.()", w) && last != "(" && last != ".":
			text.WriteString(" ")
		}
		text.WriteString(w)
		last = w
		open += strings.Count(w, "{") - strings.Count(w, "}")
		if w == "{" || w == ";" || w == "}" && !(behind[0] == "else" && behind[1] == "{") {
			text.WriteString("\n")
			last = "\n"
		}
	}
	return text.String()
}

// modelSchema is a schema's text.
func modelSchema(s api.Schema) string {
	text := ""
	for _, x := range modelThings(s, nil) {
		text += laid(x.words)
	}
	return text
}

// spread is a text that says a schema in some other way: its things of unlike kinds stand in any order, with any blanks and remarks.
func spread(r *rand.Rand, s api.Schema) string {
	things := modelThings(s, r)
	if len(s.Meta) == 0 && r.Intn(3) == 0 {
		things = append(things, modelThing{"meta", []string{"meta", "{", "}"}})
	}
	if len(s.Control) == 0 && r.Intn(3) == 0 {
		things = append(things, modelThing{"control", []string{"control", "{", "}"}})
	}
	kinds := map[string][]modelThing{}
	var order []string
	for _, x := range things {
		kind, _, _ := strings.Cut(x.name, " ")
		kinds[kind] = append(kinds[kind], x)
		order = append(order, kind)
	}
	r.Shuffle(len(order), func(i, j int) { order[i], order[j] = order[j], order[i] })
	var text strings.Builder
	for _, kind := range order {
		for _, w := range kinds[kind][0].words {
			text.WriteString(w)
			text.WriteString([]string{" ", "\n", "\t", "  ", " # a { remark\n", "\r\n"}[r.Intn(6)])
		}
		kinds[kind] = kinds[kind][1:]
	}
	return text.String()
}

// names are so many unlike names of so many bytes.
func names(first string, size, count int) []string {
	var list []string
	for i := range count {
		end := strconv.Itoa(i)
		list = append(list, first+strings.Repeat("_", size-len(first)-len(end))+end)
	}
	return list
}
