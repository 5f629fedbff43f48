package syntax_test

import (
	"fmt"
	"math/big"
	"math/rand"
	"slices"
	"strings"
	"testing"

	"turnout/api"
	"turnout/schema"
	"turnout/syntax"
)

// A writer writes a schema's words, and lets chance choose wherever the chapter says that it changes nothing.
type writer struct {
	*rand.Rand
	strings.Builder
	plain bool // one blank between words, numbers in tens
}

// gap writes blanks and remarks, of so many bytes at least.
func (w *writer) gap(least int) {
	if w.plain {
		w.WriteString(strings.Repeat(" ", least))
		return
	}
	for least > 0 || w.Intn(3) == 0 {
		w.WriteString([]string{" ", "\n", "\t", "\r", "  ", "#\n", "# header x { \xff } #\n"}[w.Intn(7)])
		least = 0
	}
}

// isLong tells whether a byte goes on with a word of letters or digits.
func isLong(b byte) bool {
	return b == '_' || '0' <= b && b <= '9' || 'a' <= b && b <= 'z' || 'A' <= b && b <= 'Z'
}

// word writes a word, and tells where it begins.
func (w *writer) word(text string) int {
	so := w.String()
	least := 0
	if so != "" && (w.plain || isLong(so[len(so)-1]) && isLong(text[0]) || strings.Contains("=<!", so[len(so)-1:]) && text[0] == '=') {
		least = 1
	}
	w.gap(least)
	begin := w.Len()
	w.WriteString(text)
	return begin
}

// words writes words of a plain text, with blanks between them.
func (w *writer) words(text string) {
	for _, word := range strings.Fields(text) {
		w.word(word)
	}
}

// number writes a value, in tens, sixteens or twos.
func (w *writer) number(a api.Bits) {
	x := new(big.Int).SetUint64(a.Hi)
	x.Lsh(x, 64).Or(x, new(big.Int).SetUint64(a.Lo))
	kind := w.Intn(4)
	if w.plain {
		kind = 0
	}
	noughts := strings.Repeat("0", w.Intn(3))
	switch kind {
	case 1:
		w.word("0x" + noughts + x.Text(16))
	case 2:
		w.word("0x" + noughts + strings.ToUpper(x.Text(16)))
	case 3:
		w.word("0b" + noughts + x.Text(2))
	default:
		w.word(x.Text(10))
	}
}

func (w *writer) fields(list []api.Field) {
	w.word("{")
	for _, f := range list {
		w.field(f)
		w.word(";")
	}
	w.word("}")
}

func (w *writer) field(f api.Field) {
	w.word(f.Name)
	w.word(":")
	w.number(n(uint64(f.Width)))
}

func (w *writer) ref(r api.Ref) {
	if r.Head != "" {
		w.words(r.Head + " .")
	}
	w.word(r.Name)
}

func (w *writer) operand(o api.Operand) {
	if o.Ref == (api.Ref{}) {
		w.number(o.Const)
		return
	}
	w.ref(o.Ref)
}

// state writes a state; a mask that would be there without it may be left out.
func (w *writer) state(s api.Schema, x api.State) {
	w.words("{ take " + x.Header + " ;")
	if x.On != (api.Ref{}) {
		w.word("on")
		w.ref(x.On)
		w.word("{")
		for _, c := range x.Cases {
			w.number(c.Value)
			if c.Mask != modelMask(s, x.On) || w.Intn(4) == 0 {
				w.word("&")
				w.number(c.Mask)
			}
			w.words(": " + c.Next + " ;")
		}
		w.word("}")
	}
	w.words("else " + x.Next + " ; }")
}

// modelMask is the mask of a case without one.
func modelMask(s api.Schema, on api.Ref) api.Bits {
	width := 128
	headers := append([]api.Header{{Name: "meta", Fields: s.Meta}}, s.Headers...)
found:
	for _, h := range headers {
		for _, f := range h.Fields {
			if h.Name == on.Head && f.Name == on.Name {
				if 1 <= f.Width && f.Width <= 128 {
					width = f.Width
				}
				break found
			}
		}
		if h.Name == on.Head {
			break
		}
	}
	x := new(big.Int).Lsh(big.NewInt(1), uint(width))
	x.Sub(x, big.NewInt(1))
	return api.Bits{Hi: new(big.Int).Rsh(x, 64).Uint64(), Lo: new(big.Int).And(x, new(big.Int).SetUint64(1<<64-1)).Uint64()}
}

func (w *writer) action(a api.Action) {
	w.word("(")
	for i, p := range a.Params {
		if i > 0 {
			w.word(",")
		}
		w.field(p)
	}
	w.words(") {")
	for _, s := range a.Steps {
		switch s.Kind {
		case api.StepSet:
			w.ref(s.To)
			w.word("=")
			w.operand(s.A)
			if s.Op != api.OpCopy {
				w.word(string("+-&|^"[s.Op-1]))
				w.operand(s.B)
			}
		case api.StepDrop:
			w.word("drop")
		case api.StepAdd:
			w.words("add " + s.To.Head)
		case api.StepRemove:
			w.words("remove " + s.To.Head)
		case api.StepSum:
			w.word("sum")
			w.ref(s.To)
		case api.StepAgain:
			w.word("again")
		}
		w.word(";")
	}
	w.word("}")
}

func (w *writer) table(x api.Table) {
	w.word("{")
	for _, k := range x.Keys {
		w.word("key")
		w.ref(k.Ref)
		w.words(strings.Fields("exact prefix ternary range")[k.Kind-1] + " ;")
	}
	w.words("can " + strings.Join(x.Actions, " , ") + " ; size")
	w.number(n(uint64(x.Size)))
	w.words("; default " + x.Default.Action + " (")
	for i, a := range x.Default.Args {
		if i > 0 {
			w.word(",")
		}
		w.number(a)
	}
	w.word(")")
	if x.Fixed {
		w.word("fixed")
	}
	w.words("; }")
}

func (w *writer) stages(list []api.Stage) {
	w.word("{")
	for _, s := range list {
		switch s.Kind {
		case api.StageApply:
			w.words("apply " + s.Table)
			if len(s.Then)+len(s.Else) == 0 && w.Intn(2) == 0 {
				w.word(";")
				continue
			}
		case api.StageIf:
			w.word("if")
			if s.Test.Kind == api.TestValid {
				w.words("valid " + s.Test.A.Ref.Head)
				break
			}
			w.operand(s.Test.A)
			w.word(strings.Fields("== != < <=")[s.Test.Kind-api.TestEq])
			w.operand(s.Test.B)
		default:
			w.words("exit ;")
			continue
		}
		w.stages(s.Then)
		if len(s.Else) > 0 || w.Intn(3) == 0 {
			w.word("else")
			w.stages(s.Else)
		}
	}
	w.word("}")
}

// schema writes a schema, things of unlike kinds in any order, and tells where each thing begins.
func (w *writer) schema(s api.Schema) map[string]int {
	begins := map[string]int{}
	note := func(thing string, begin int) {
		if _, met := begins[thing]; !met {
			begins[thing] = begin
		}
	}
	next := func(kind, name string) {
		begin := w.word(kind)
		note(kind, begin)
		if name != "" {
			w.word(name)
			note(kind+" "+name, begin)
		}
	}
	i := map[string]int{}
	for _, kind := range w.order(s) {
		switch kind {
		case "header":
			next(kind, s.Headers[i[kind]].Name)
			w.fields(s.Headers[i[kind]].Fields)
		case "meta":
			next(kind, "")
			w.fields(s.Meta)
		case "state":
			next(kind, s.States[i[kind]].Name)
			w.state(s, s.States[i[kind]])
		case "action":
			next(kind, s.Actions[i[kind]].Name)
			w.action(s.Actions[i[kind]])
		case "table":
			next(kind, s.Tables[i[kind]].Name)
			w.table(s.Tables[i[kind]])
		case "control":
			next(kind, "")
			w.stages(s.Control)
		}
		i[kind]++
	}
	w.gap(0)
	return begins
}

// order is one in which things may stand, by their kinds.
func (w *writer) order(s api.Schema) []string {
	var list []string
	for kind, count := range []int{len(s.Headers), min(1, len(s.Meta)+w.Intn(2)), len(s.States), len(s.Actions), len(s.Tables), min(1, len(s.Control)+w.Intn(2))} {
		for range count {
			list = append(list, kinds[kind])
		}
	}
	w.Shuffle(len(list), func(i, j int) { list[i], list[j] = list[j], list[i] })
	return list
}

// A drawer draws schemas that a text can say, most of them not sound.
type drawer struct {
	*rand.Rand
	stages int // that may still be drawn
}

func (d drawer) name() string { return someNames[d.Intn(len(someNames))] }

func (d drawer) width() int {
	return []int{0, 1, 5, 8, 16, 32, 63, 64, 65, 100, 127, 128, 129, 2147483647}[d.Intn(14)]
}

func (d drawer) value() api.Bits {
	return []api.Bits{{}, n(1), n(d.Uint64()), {Hi: 1}, {Hi: d.Uint64(), Lo: d.Uint64()}, most}[d.Intn(6)]
}

func (d drawer) fields(most int) []api.Field {
	var list []api.Field
	for range d.Intn(most + 1) {
		list = append(list, api.Field{Name: d.name(), Width: d.width()})
	}
	return list
}

func (d drawer) ref() api.Ref {
	if d.Intn(4) == 0 {
		return ref("meta", d.name())
	}
	return ref(d.name(), d.name())
}

func (d drawer) operand() api.Operand {
	switch d.Intn(3) {
	case 0:
		return api.Operand{Const: d.value()}
	case 1:
		return at("", d.name())
	}
	return api.Operand{Ref: d.ref()}
}

func (d drawer) next() string {
	return []string{"accept", "reject", d.name()}[d.Intn(3)]
}

func (d drawer) state(s api.Schema) api.State {
	x := api.State{Name: d.name(), Header: d.name(), Next: d.next()}
	if d.Intn(3) == 0 {
		return x
	}
	x.On = d.ref()
	for range d.Intn(4) {
		mask := modelMask(s, x.On)
		if d.Intn(2) == 0 {
			mask = d.value()
		}
		x.Cases = append(x.Cases, api.Case{Value: d.value(), Mask: mask, Next: d.next()})
	}
	return x
}

func (d drawer) step() api.Step {
	switch kind := 1 + d.Intn(8); kind {
	case api.StepDrop, api.StepAgain:
		return api.Step{Kind: kind}
	case api.StepAdd, api.StepRemove:
		return api.Step{Kind: kind, To: ref(d.name(), "")}
	case api.StepSum:
		return api.Step{Kind: kind, To: d.ref()}
	}
	s := api.Step{Kind: api.StepSet, To: d.ref(), Op: d.Intn(6), A: d.operand()}
	if s.Op != api.OpCopy {
		s.B = d.operand()
	}
	return s
}

func (d drawer) table() api.Table {
	x := api.Table{Name: d.name(), Actions: []string{d.name()}, Size: d.width(), Default: api.Call{Action: d.name()}, Fixed: d.Intn(2) == 0}
	for range d.Intn(4) {
		x.Keys = append(x.Keys, api.Key{Ref: d.ref(), Kind: 1 + d.Intn(4)})
	}
	for range d.Intn(3) {
		x.Actions = append(x.Actions, d.name())
	}
	for range d.Intn(4) {
		x.Default.Args = append(x.Default.Args, d.value())
	}
	return x
}

func (d *drawer) control() []api.Stage {
	var list []api.Stage
	for d.stages > 0 && d.Intn(4) > 0 {
		d.stages--
		x := api.Stage{Kind: 1 + d.Intn(3)}
		switch x.Kind {
		case api.StageApply:
			x.Table = d.name()
		case api.StageIf:
			x.Test = api.Test{Kind: 1 + d.Intn(5), A: at(d.name(), "")}
			if x.Test.Kind != api.TestValid {
				x.Test.A, x.Test.B = d.operand(), d.operand()
			}
		}
		if x.Kind != api.StageExit {
			x.Then, x.Else = d.control(), d.control()
		}
		list = append(list, x)
	}
	return list
}

func drawSchema(r *rand.Rand) api.Schema {
	d := &drawer{Rand: r, stages: r.Intn(12)}
	var s api.Schema
	for range d.Intn(4) {
		s.Headers = append(s.Headers, api.Header{Name: d.name(), Fields: d.fields(4)})
	}
	s.Meta = d.fields(3)
	for range d.Intn(4) {
		s.States = append(s.States, d.state(s))
	}
	for range d.Intn(4) {
		a := api.Action{Name: d.name(), Params: d.fields(3)}
		for range d.Intn(5) {
			a.Steps = append(a.Steps, d.step())
		}
		s.Actions = append(s.Actions, a)
	}
	for range d.Intn(4) {
		s.Tables = append(s.Tables, d.table())
	}
	s.Control = d.control()
	return s
}

// someThings may be called so, or not.
func someThings() []string {
	things := []string{"", " ", "meta a", "control a", "x", "eth"}
	for _, kind := range kinds {
		things = append(things, kind, kind+" ", " "+kind, kind+" zz", kind+"a")
		for _, name := range someNames {
			things = append(things, kind+" "+name, kind+"  "+name, kind+" "+name+" ", kind+"\t"+name, name)
		}
	}
	return things
}

// checkPlaces holds the places of things, those that there are and some others, against where they begin.
func checkPlaces(t *testing.T, r *rand.Rand, text string, begins map[string]int) {
	t.Helper()
	for thing, begin := range begins {
		checkPlace(t, text, thing, place(text, begin))
	}
	others := someThings()
	for range 8 {
		thing := others[r.Intn(len(others))]
		if _, ok := begins[thing]; !ok {
			checkPlace(t, text, thing, api.Pos{})
		}
	}
}

// P8.1, P8.2

// TestDrawn: what is written is read as it was, whatever chance chooses.
func TestDrawn(t *testing.T) {
	r := rand.New(rand.NewSource(3))
	for range 1500 {
		s := drawSchema(r)
		w := &writer{Rand: r}
		begins := w.schema(s)
		checkSaid(t, w.String(), s)
		checkPlaces(t, r, w.String(), begins)
		if t.Failed() {
			t.FailNow()
		}
	}
}

// P8.3

// turnSame puts a name in a name's place, or a number in a number's, so that most often there is no fault.
func turnSame(r *rand.Rand, words []string) {
	isNumber := func(word string) bool { return '0' <= word[0] && word[0] <= '9' }
	for {
		i, word := r.Intn(len(words)), words[r.Intn(len(words))]
		switch {
		case isNumber(words[i]):
			words[i] = slices.Concat(someNumbers, greatNumbers)[r.Intn(len(someNumbers)+2)]
			return
		case schema.IsName(words[i]) && schema.IsName(word):
			words[i] = word
			return
		}
	}
}

// TestDrawnSound: Sound is what Check and Place tell of what was read.
func TestDrawnSound(t *testing.T) {
	r := rand.New(rand.NewSource(4))
	met := map[string]int{}
	for range 4000 {
		words := texts(textAll)
		for range r.Intn(3) {
			turnSame(r, words)
		}
		text := spread(r, words)
		got, fault := syntax.Sound(text)
		want, f := syntax.Schema(text)
		e, thing := schema.Check(want)
		switch {
		case f != (api.Fault{}):
			want = api.Schema{}
		case e != api.OK:
			f, want = api.Fault{Code: e, At: modelPlaces(text)[thing]}, api.Schema{}
		}
		if fault != f || !schema.Same(got, want) {
			t.Fatalf("%q: %v; want %v", text, fault, f)
		}
		met[fmt.Sprint(int(fault.Code), " ", thing)]++
	}
	if len(met) < 40 || met["0 "] < 100 {
		t.Errorf("%d answers: %v", len(met), met)
	}
}
