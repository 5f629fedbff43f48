package schema_test

import (
	"reflect"
	"slices"
	"strings"

	"turnout/api"
)

// The chapter once more, made another way: all errors of a schema are gathered, none of them stops, and the first one counts; things are looked for one by one; what is well made is asked of the chapter's table.

type told struct {
	code  api.Errno
	thing string
}

// A model gathers what is wrong with a schema.
type model struct {
	s     api.Schema
	thing string
	list  []told
}

func (m *model) bad(wrong bool, code api.Errno) {
	if wrong {
		m.list = append(m.list, told{code, m.thing})
	}
}

// modelCheck is what Check must answer.
func modelCheck(s api.Schema) (api.Errno, string) {
	m := &model{s: s}
	m.headers()
	m.thing = "meta"
	m.bad(len(s.Meta) > 32, api.ErrMany)
	m.fields(s.Meta)
	m.states()
	m.actions()
	m.tables()
	m.control()
	if len(m.list) == 0 {
		return api.OK, ""
	}
	return m.list[0].code, m.list[0].thing
}

// alike counts the things of a list of which something is so.
func alike[T any](list []T, is func(T) bool) int {
	count := 0
	for _, x := range list {
		if is(x) {
			count++
		}
	}
	return count
}

func (m *model) fields(list []api.Field) {
	for i, f := range list {
		m.bad(!isName(f.Name), api.ErrName)
		m.bad(alike(list[:i], func(x api.Field) bool { return x.Name == f.Name }) > 0, api.ErrTwice)
		m.bad(f.Width < 1 || f.Width > 128, api.ErrBits)
	}
}

func (m *model) headers() {
	m.thing = "header"
	m.bad(len(m.s.Headers) > 32, api.ErrMany)
	for i, h := range m.s.Headers {
		m.thing = "header " + h.Name
		m.bad(!isName(h.Name), api.ErrName)
		m.bad(alike(m.s.Headers[:i], func(x api.Header) bool { return x.Name == h.Name }) > 0, api.ErrTwice)
		m.bad(len(h.Fields) == 0 || len(h.Fields) > 32, api.ErrMany)
		m.fields(h.Fields)
		sum := 0
		for _, f := range h.Fields {
			sum += f.Width % 8
		}
		m.bad(sum%8 != 0, api.ErrBits)
	}
}

// isHeader tells whether a header is called so.
func (m *model) isHeader(name string) bool {
	return alike(m.s.Headers, func(h api.Header) bool { return h.Name == name }) > 0
}

// modelWidth is what Width must answer.
func modelWidth(s api.Schema, r api.Ref) int {
	var list []api.Field
	if r.Head == "meta" {
		list = s.Meta
	} else if r.Head != "" {
		for _, h := range slices.Backward(s.Headers) {
			if h.Name == r.Head {
				list = h.Fields
			}
		}
	}
	width := 0
	for _, f := range slices.Backward(list) {
		if f.Name == r.Name {
			width = f.Width
		}
	}
	if width < 0 || width > 128 {
		return 0
	}
	return width
}

// below tells whether a value is below 2^width.
func below(a api.Bits, width int) bool {
	if width < 1 || width > 128 {
		return false
	}
	for bit := width; bit < 128; bit++ {
		if bit < 64 && a.Lo>>bit&1 == 1 || bit >= 64 && a.Hi>>(bit-64)&1 == 1 {
			return false
		}
	}
	return true
}

func (m *model) states() {
	m.thing = "state"
	m.bad(len(m.s.States) > 32, api.ErrMany)
	isNext := func(next string) bool {
		return next == "accept" || next == "reject" || alike(m.s.States, func(x api.State) bool { return x.Name == next }) > 0
	}
	for i, x := range m.s.States {
		m.thing = "state " + x.Name
		m.bad(!isName(x.Name), api.ErrName)
		m.bad(alike(m.s.States[:i], func(y api.State) bool { return y.Name == x.Name }) > 0, api.ErrTwice)
		m.bad(!m.isHeader(x.Header), api.ErrUnknown)
		zero := x.On.Head == "" && x.On.Name == ""
		width := modelWidth(m.s, x.On)
		m.bad(!zero && width == 0, api.ErrUnknown)
		m.bad(len(x.Cases) > 32, api.ErrMany)
		m.bad(len(x.Cases) > 0 && zero, api.ErrKind)
		for j, c := range x.Cases {
			m.bad(!below(c.Mask, width) || c.Value.Hi&^c.Mask.Hi != 0 || c.Value.Lo&^c.Mask.Lo != 0, api.ErrBits)
			m.bad(alike(x.Cases[:j], func(d api.Case) bool { return d.Value == c.Value && d.Mask == c.Mask }) > 0, api.ErrTwice)
			m.bad(!isNext(c.Next), api.ErrUnknown)
		}
		m.bad(!isNext(x.Next), api.ErrUnknown)
	}
	for i, x := range m.s.States {
		m.thing = "state " + x.Name
		m.bad(len(m.s.States) <= 32 && m.comesFrom(i)[i], api.ErrLoop)
	}
}

// comesFrom are the states to which one comes from one of them.
func (m *model) comesFrom(from int) map[int]bool {
	met := map[int]bool{}
	work := []int{from}
	for len(work) > 0 {
		x := m.s.States[work[0]]
		work = work[1:]
		next := []string{x.Next}
		for _, c := range x.Cases {
			next = append(next, c.Next)
		}
		for i, y := range m.s.States {
			if slices.Contains(next, y.Name) && !met[i] {
				met[i] = true
				work = append(work, i)
			}
		}
	}
	return met
}

// theNamed is the chapter's table: which fields a kind names.
var theNamed = map[string][]string{
	"set copy": {"To", "A"}, "set": {"To", "Op", "A", "B"}, "drop": {}, "again": {}, "add": {"To.Head"}, "remove": {"To.Head"}, "sum": {"To"},
	"apply": {"Table", "Then", "Else"}, "if": {"Test", "Then", "Else"}, "exit": {},
	"valid": {"A.Ref.Head"}, "eq": {"A", "B"}, "ne": {"A", "B"}, "lt": {"A", "B"}, "le": {"A", "B"},
}

// wellMade tells whether what is pointed at is zero in every field that its kind does not name.
func wellMade[T any](x T, kind string) bool {
	named, ok := theNamed[kind]
	if !ok {
		return false
	}
	v := reflect.ValueOf(&x).Elem()
	for _, path := range append([]string{"Kind"}, named...) {
		f := v
		for _, part := range strings.Split(path, ".") {
			f = f.FieldByName(part)
		}
		f.SetZero()
	}
	return isNought(v)
}

// isNought tells whether all of a value is zero, its lists nil or empty.
func isNought(v reflect.Value) bool {
	switch v.Kind() {
	case reflect.Slice:
		return v.Len() == 0
	case reflect.Struct:
		for i := range v.NumField() {
			if !isNought(v.Field(i)) {
				return false
			}
		}
		return true
	}
	return v.IsZero()
}

// constant tells whether an operand is one; mixed, whether it is not well made.
func constant(o api.Operand) bool { return o.Ref.Head == "" && o.Ref.Name == "" }

func mixed(list ...api.Operand) bool {
	return alike(list, func(o api.Operand) bool { return !constant(o) && o.Const != api.Bits{} }) > 0
}

func stepKind(x api.Step) string {
	switch x.Kind {
	case 1:
		if x.Op == 0 {
			return "set copy"
		}
		if x.Op >= 1 && x.Op <= 5 {
			return "set"
		}
	case 2, 3, 4, 5, 6:
		return []string{"drop", "add", "remove", "sum", "again"}[x.Kind-2]
	}
	return "none"
}

func (m *model) actions() {
	m.thing = "action"
	m.bad(len(m.s.Actions) > 64, api.ErrMany)
	for i, a := range m.s.Actions {
		m.thing = "action " + a.Name
		m.bad(!isName(a.Name), api.ErrName)
		m.bad(alike(m.s.Actions[:i], func(x api.Action) bool { return x.Name == a.Name }) > 0, api.ErrTwice)
		m.bad(len(a.Params) > 8, api.ErrMany)
		m.bad(len(a.Steps) > 32, api.ErrMany)
		m.fields(a.Params)
		for _, x := range a.Steps {
			m.step(x, a)
		}
	}
}

func (m *model) step(x api.Step, a api.Action) {
	kind := stepKind(x)
	m.bad(!wellMade(x, kind) || mixed(x.A, x.B), api.ErrKind)
	to := modelWidth(m.s, x.To)
	switch kind {
	case "set", "set copy":
		width := func(o api.Operand) int {
			if o.Ref.Head == "" {
				// A parameter is found as a field of a header with the action's parameters.
				return modelWidth(api.Schema{Headers: []api.Header{{Name: "own", Fields: a.Params}}}, ref("own", o.Ref.Name))
			}
			return modelWidth(m.s, o.Ref)
		}
		list := []api.Operand{x.A, x.B}
		if kind == "set copy" {
			list = list[:1]
		}
		m.bad(to == 0, api.ErrUnknown)
		for _, o := range list {
			m.bad(!constant(o) && width(o) == 0, api.ErrUnknown)
		}
		for _, o := range list {
			m.bad(constant(o) && !below(o.Const, to) || !constant(o) && width(o) != to, api.ErrBits)
		}
	case "add", "remove":
		m.bad(!m.isHeader(x.To.Head), api.ErrUnknown)
	case "sum":
		m.bad(x.To.Head == "meta" || to == 0, api.ErrUnknown)
		m.bad(to != 16, api.ErrBits)
	}
}

func (m *model) tables() {
	m.thing = "table"
	m.bad(len(m.s.Tables) > 32, api.ErrMany)
	for i, x := range m.s.Tables {
		m.thing = "table " + x.Name
		m.bad(!isName(x.Name), api.ErrName)
		m.bad(alike(m.s.Tables[:i], func(y api.Table) bool { return y.Name == x.Name }) > 0, api.ErrTwice)
		m.bad(len(x.Keys) == 0 || len(x.Keys) > 8, api.ErrMany)
		of := func(list []api.Key, kind int) int { return alike(list, func(k api.Key) bool { return k.Kind == kind }) }
		for j, k := range x.Keys {
			m.bad(modelWidth(m.s, k.Ref) == 0, api.ErrUnknown)
			m.bad(k.Kind < 1 || k.Kind > 4, api.ErrKind)
			m.bad(k.Kind == 2 && of(x.Keys[:j], 2)+of(x.Keys, 3)+of(x.Keys, 4) > 0, api.ErrKind)
		}
		m.bad(len(x.Actions) == 0 || len(x.Actions) > 64, api.ErrMany)
		for j, name := range x.Actions {
			m.bad(alike(m.s.Actions, func(a api.Action) bool { return a.Name == name }) == 0, api.ErrUnknown)
			m.bad(slices.Contains(x.Actions[:j], name), api.ErrTwice)
		}
		m.bad(x.Size < 1 || x.Size > 4096, api.ErrMany)
		e := modelCall(m.s, x.Name, x.Default)
		m.bad(e != api.OK, e)
	}
}

// modelCall is what Call must answer.
func modelCall(s api.Schema, table string, c api.Call) api.Errno {
	for _, t := range s.Tables {
		if t.Name != table {
			continue
		}
		if !slices.Contains(t.Actions, c.Action) {
			return api.ErrAction
		}
		for _, a := range s.Actions {
			if a.Name != c.Action {
				continue
			}
			if len(a.Params) != len(c.Args) {
				return api.ErrArgs
			}
			for i, p := range a.Params {
				if !below(c.Args[i], p.Width) {
					return api.ErrArgs
				}
			}
			return api.OK
		}
		return api.ErrAction
	}
	return api.ErrTable
}

// deepStage is a stage with its depth.
type deepStage struct {
	api.Stage
	depth int
}

// inOrder are the stages of a list from above.
func inOrder(list []api.Stage, depth int) []deepStage {
	var all []deepStage
	for _, x := range list {
		all = append(all, deepStage{x, depth})
		all = append(all, inOrder(x.Then, depth+1)...)
		all = append(all, inOrder(x.Else, depth+1)...)
	}
	return all
}

// tooGreat tells whether a control has too many stages, or one that is too deep.
func tooGreat(list []api.Stage) (many, deep bool) {
	all := inOrder(list, 1)
	return len(all) > 128, alike(all, func(x deepStage) bool { return x.depth > 8 }) > 0
}

func (m *model) control() {
	m.thing = "control"
	many, deep := tooGreat(m.s.Control)
	m.bad(many, api.ErrMany)
	m.bad(deep, api.ErrDeep)
	var tables []string
	for _, x := range inOrder(m.s.Control, 1) {
		kinds := map[int]string{1: "apply", 2: "if", 3: "exit"}
		tests := map[int]string{1: "valid", 2: "eq", 3: "ne", 4: "lt", 5: "le"}
		made := wellMade(x.Stage, kinds[x.Kind])
		if x.Kind == api.StageIf {
			made = made && wellMade(x.Test, tests[x.Test.Kind]) && !mixed(x.Test.A, x.Test.B)
		}
		m.bad(!made, api.ErrKind)
		switch {
		case x.Kind == api.StageApply:
			m.bad(alike(m.s.Tables, func(t api.Table) bool { return t.Name == x.Table }) == 0, api.ErrUnknown)
			m.bad(slices.Contains(tables, x.Table), api.ErrTwice)
			tables = append(tables, x.Table)
		case x.Kind == api.StageIf && x.Test.Kind == api.TestValid:
			m.bad(!m.isHeader(x.Test.A.Ref.Head), api.ErrUnknown)
		case x.Kind == api.StageIf:
			m.test(x.Test)
		}
	}
}

func (m *model) test(x api.Test) {
	a, b := modelWidth(m.s, x.A.Ref), modelWidth(m.s, x.B.Ref)
	m.bad(!constant(x.A) && a == 0, api.ErrUnknown)
	m.bad(!constant(x.B) && b == 0, api.ErrUnknown)
	m.bad(constant(x.A) && constant(x.B), api.ErrBits)
	m.bad(constant(x.A) && !below(x.A.Const, b), api.ErrBits)
	m.bad(constant(x.B) && !below(x.B.Const, a), api.ErrBits)
	m.bad(!constant(x.A) && !constant(x.B) && a != b, api.ErrBits)
}
