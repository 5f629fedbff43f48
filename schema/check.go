package schema

import (
	"turnout/api"
	"turnout/value"
)

// Check is the first error of a schema, and the thing in which it stands; OK: it is sound.
func Check(s api.Schema) (api.Errno, string) {
	found := caught(func() {
		c := &checker{schema: s}
		c.checkHeaders()
		c.checkMeta()
		c.widths = widthsOf(s)
		c.checkStates()
		c.checkActions()
		c.checkTables()
		c.checkControl()
	})
	return found.code, found.thing
}

// A finding is an error, and the thing in which it stands.
type finding struct {
	code  api.Errno
	thing string
}

// caught is the finding with which something gave up; zero, if it came to its end.
func caught(do func()) (found finding) {
	defer func() {
		if gone := recover(); gone != nil {
			found = gone.(finding)
		}
	}()
	do()
	return found
}

// A checker goes over a schema, part by part; each part leans on those ahead of it being right. What is not right gives up: it panics with its finding, which caught catches, and with nothing else.
type checker struct {
	schema                   api.Schema
	thing                    string          // what is gone over now
	widths                   map[api.Ref]int // of all fields; 0: no field
	headers, actions, tables map[string]int  // the places of those that were gone over, by their names
}

// need gives up with an error of the thing that is gone over, if something does not hold.
func (c *checker) need(holds bool, e api.Errno) {
	if !holds {
		panic(finding{code: e, thing: c.thing})
	}
}

// needNew gives up, if a name is none, or one of those ahead of it is the same; else it is one of them from now on.
func (c *checker) needNew(name string, ahead map[string]int) {
	c.need(IsName(name), api.ErrName)
	c.need(!has(ahead, name), api.ErrTwice)
	ahead[name] = len(ahead)
}

// has tells whether a map has something of a key.
func has[K comparable](places map[K]int, key K) bool {
	_, ok := places[key]
	return ok
}

// checkFields goes over fields, or parameters.
func (c *checker) checkFields(list []api.Field) {
	ahead := map[string]int{}
	for _, f := range list {
		c.needNew(f.Name, ahead)
		c.need(possible(f.Width) > 0, api.ErrBits)
	}
}

func (c *checker) checkHeaders() {
	c.thing = "header"
	c.need(len(c.schema.Headers) <= api.MaxHeaders, api.ErrMany)
	c.headers = map[string]int{}
	for _, h := range c.schema.Headers {
		c.thing = "header " + h.Name
		c.needNew(h.Name, c.headers)
		c.need(1 <= len(h.Fields) && len(h.Fields) <= api.MaxFields, api.ErrMany)
		c.checkFields(h.Fields)
		c.need(bitsOf(h)%8 == 0, api.ErrBits)
	}
}

// bitsOf is how many bits a header has.
func bitsOf(h api.Header) int {
	sum := 0
	for _, f := range h.Fields {
		sum += f.Width
	}
	return sum
}

func (c *checker) checkMeta() {
	c.thing = "meta"
	c.need(len(c.schema.Meta) <= api.MaxFields, api.ErrMany)
	c.checkFields(c.schema.Meta)
}

func (c *checker) checkActions() {
	c.thing = "action"
	c.need(len(c.schema.Actions) <= api.MaxActions, api.ErrMany)
	c.actions = map[string]int{}
	for _, a := range c.schema.Actions {
		c.thing = "action " + a.Name
		c.needNew(a.Name, c.actions)
		c.need(len(a.Params) <= api.MaxParams && len(a.Steps) <= api.MaxSteps, api.ErrMany)
		c.checkFields(a.Params)
		for _, step := range a.Steps {
			c.checkStep(step, a.Params)
		}
	}
}

func (c *checker) checkStep(step api.Step, params []api.Field) {
	c.need(isStep(step), api.ErrKind)
	switch step.Kind {
	case api.StepSet:
		c.checkSet(step, params)
	case api.StepAdd, api.StepRemove:
		c.need(has(c.headers, step.To.Head), api.ErrUnknown)
	case api.StepSum:
		c.need(step.To.Head != metaHead && c.widths[step.To] > 0, api.ErrUnknown)
		c.need(c.widths[step.To] == 16, api.ErrBits)
	}
}

// checkSet goes over a step that sets a field. With OpCopy its B is zero: a constant, which fits everywhere.
func (c *checker) checkSet(step api.Step, params []api.Field) {
	width := c.widths[step.To]
	c.need(width > 0, api.ErrUnknown)
	a, b := c.widthWith(params, step.A.Ref), c.widthWith(params, step.B.Ref)
	c.need(isConst(step.A) || a > 0, api.ErrUnknown)
	c.need(isConst(step.B) || b > 0, api.ErrUnknown)
	c.need(goesInto(width, step.A, a), api.ErrBits)
	c.need(goesInto(width, step.B, b), api.ErrBits)
}

// widthWith is the width of the field or of the parameter that a reference names; 0: it names none.
func (c *checker) widthWith(params []api.Field, r api.Ref) int {
	for _, p := range params {
		if r == (api.Ref{Name: p.Name}) {
			return p.Width
		}
	}
	return c.widths[r]
}

// goesInto tells whether an operand, of its own width if it is no constant, can be set into a field of a width.
func goesInto(width int, o api.Operand, own int) bool {
	if isConst(o) {
		return value.Fits(o.Const, width)
	}
	return own == width
}

func (c *checker) checkTables() {
	c.thing = "table"
	c.need(len(c.schema.Tables) <= api.MaxTables, api.ErrMany)
	c.tables = map[string]int{}
	for _, t := range c.schema.Tables {
		c.thing = "table " + t.Name
		c.needNew(t.Name, c.tables)
		c.checkKeys(t)
		c.checkCan(t.Actions)
		c.need(1 <= t.Size && t.Size <= api.MaxCapacity, api.ErrMany)
		e := Call(c.schema, t.Name, t.Default)
		c.need(e == api.OK, e)
	}
}

func (c *checker) checkKeys(t api.Table) {
	c.need(1 <= len(t.Keys) && len(t.Keys) <= api.MaxKeys, api.ErrMany)
	prefixes := 0
	for _, key := range t.Keys {
		c.need(c.widths[key.Ref] > 0, api.ErrUnknown)
		c.need(api.Exact <= key.Kind && key.Kind <= api.Range, api.ErrKind)
		if key.Kind == api.Prefix {
			prefixes++
			c.need(prefixes == 1 && Kind(t) == api.Prefix, api.ErrKind)
		}
	}
}

// checkCan goes over the actions that a table can have.
func (c *checker) checkCan(names []string) {
	c.need(1 <= len(names) && len(names) <= api.MaxActions, api.ErrMany)
	ahead := map[string]int{}
	for i, name := range names {
		c.need(has(c.actions, name), api.ErrUnknown)
		c.need(!has(ahead, name), api.ErrTwice)
		ahead[name] = i
	}
}

func (c *checker) checkControl() {
	c.thing = "control"
	e := size(c.schema.Control)
	c.need(e == api.OK, e)
	applied := map[string]int{}
	walk(c.schema.Control, 1, func(stage api.Stage, _ int) bool {
		c.checkStage(stage, applied)
		return true
	})
}

// checkStage goes over a stage, but not over those within it; applied are the tables of those ahead.
func (c *checker) checkStage(stage api.Stage, applied map[string]int) {
	c.need(isStage(stage), api.ErrKind)
	switch stage.Kind {
	case api.StageApply:
		c.need(has(c.tables, stage.Table), api.ErrUnknown)
		c.need(!has(applied, stage.Table), api.ErrTwice)
		applied[stage.Table] = len(applied)
	case api.StageIf:
		c.checkTest(stage.Test)
	}
}

func (c *checker) checkTest(test api.Test) {
	if test.Kind == api.TestValid {
		c.need(has(c.headers, test.A.Ref.Head), api.ErrUnknown)
		return
	}
	a, b := c.widths[test.A.Ref], c.widths[test.B.Ref]
	c.need(isConst(test.A) || a > 0, api.ErrUnknown)
	c.need(isConst(test.B) || b > 0, api.ErrUnknown)
	switch {
	case isConst(test.A):
		// If both are constants, b is 0, which nothing fits.
		c.need(value.Fits(test.A.Const, b), api.ErrBits)
	case isConst(test.B):
		c.need(value.Fits(test.B.Const, a), api.ErrBits)
	default:
		c.need(a == b, api.ErrBits)
	}
}
