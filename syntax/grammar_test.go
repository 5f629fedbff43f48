package syntax_test

import (
	"math/rand"
	"regexp"
	"slices"
	"strings"
	"testing"

	"turnout/api"
	"turnout/lex"
)

// grammar is the chapter's, as it stands there: the faults are held against what can be read out of it, word by word.
const grammar = `
    schema  = { header | meta | state | action | table | control }
    header  = "header" name "{" { name ":" int ";" } "}"
    meta    = "meta" "{" { name ":" int ";" } "}"
    state   = "state" name "{" "take" name ";" [ "on" field "{" { case } "}" ] "else" next ";" "}"
    case    = number [ "&" number ] ":" next ";"
    next    = name | "accept" | "reject"
    action  = "action" name "(" [ param { "," param } ] ")" "{" { step } "}"
    param   = name ":" int
    step    = field "=" operand [ ( "+" | "-" | "&" | "|" | "^" ) operand ] ";"
            | "drop" ";" | "add" name ";" | "remove" name ";" | "sum" field ";" | "again" ";"
    field   = ( name | "meta" ) "." name
    operand = number | field | name
    table   = "table" name "{" { "key" field ( "exact" | "prefix" | "ternary" | "range" ) ";" }
              "can" name { "," name } ";" "size" int ";" "default" call [ "fixed" ] ";" "}"
    call    = name "(" [ number { "," number } ] ")"
    control = "control" "{" { stage } "}"
    stage   = "apply" name ( ";" | block [ "else" block ] ) | "if" test block [ "else" block ] | "exit" ";"
    block   = "{" { stage } "}"
    test    = "valid" name | operand ( "==" | "!=" | "<" | "<=" ) operand
`

// kinds are those of things.
var kinds = []string{"header", "meta", "state", "action", "table", "control"}

// A node is a part of the grammar.
type node struct {
	kind  string // "word", "rule", "row", "bar", "{" (any number of times), "[" (once, or not at all)
	text  string // of a word (in quotes, or name, number, int), of a rule
	parts []*node
}

// rules are the grammar's, by their names.
var rules = readGrammar()

func readGrammar() map[string]*node {
	signs := regexp.MustCompile(`"[^"]*"|\S+`).FindAllString(grammar, -1)
	out := map[string]*node{}
	for len(signs) > 0 {
		end := 2
		for end < len(signs) && (end+1 == len(signs) || signs[end+1] != "=") {
			end++
		}
		body := signs[2:end]
		out[signs[0]] = readBar(&body)
		signs = signs[end:]
	}
	return out
}

// readBar reads alternatives up to what closes them.
func readBar(signs *[]string) *node {
	bar := &node{kind: "bar", parts: []*node{{kind: "row"}}}
	for len(*signs) > 0 {
		sign := (*signs)[0]
		*signs = (*signs)[1:]
		row := bar.parts[len(bar.parts)-1]
		switch {
		case sign == "|":
			bar.parts = append(bar.parts, &node{kind: "row"})
		case strings.Contains("}])", sign):
			return bar
		case sign == "(":
			row.parts = append(row.parts, readBar(signs))
		case sign == "{", sign == "[":
			row.parts = append(row.parts, &node{kind: sign, parts: []*node{readBar(signs)}})
		case sign[0] == '"', sign == "name", sign == "number", sign == "int":
			row.parts = append(row.parts, &node{kind: "word", text: sign})
		default:
			row.parts = append(row.parts, &node{kind: "rule", text: sign})
		}
	}
	return bar
}

// A rest is what must still be read.
type rest struct {
	node   *node
	behind *rest
}

// A way is one of those that the words so far may have gone through the grammar.
type way struct {
	rest          *rest
	meta, control bool // one was read
}

// beginning is where all ways begin.
var beginning = []way{{rest: &rest{node: &node{kind: "rule", text: "schema"}}}}

// expand tells the words with which a way may go on, and how it is then; the empty one: it may end.
func expand(w way, tell func(word string, then way)) {
	if w.rest == nil {
		tell("", w)
		return
	}
	first, behind := w.rest.node, w.rest.behind
	to := func(r *rest) {
		v := w
		v.rest = r
		expand(v, tell)
	}
	switch first.kind {
	case "word":
		v := w
		v.rest = behind
		tell(first.text, v)
	case "rule":
		if first.text == "meta" && w.meta || first.text == "control" && w.control {
			return
		}
		w.meta = w.meta || first.text == "meta"
		w.control = w.control || first.text == "control"
		to(&rest{rules[first.text], behind})
	case "row":
		for i := len(first.parts) - 1; i >= 0; i-- {
			behind = &rest{first.parts[i], behind}
		}
		to(behind)
	case "bar":
		for _, part := range first.parts {
			to(&rest{part, behind})
		}
	case "{":
		to(behind)
		to(&rest{first.parts[0], w.rest})
	case "[":
		to(behind)
		to(&rest{first.parts[0], behind})
	}
}

// isOf tells whether a word is one that the grammar names so.
func isOf(w lex.Token, word string) bool {
	switch word {
	case "name":
		return w.Kind == lex.Name
	case "number":
		return w.Kind == lex.Number
	case "int":
		return w.Kind == lex.Number && w.Value.Hi == 0 && w.Value.Lo < 1<<31
	}
	return (w.Kind == lex.Word || w.Kind == lex.Sign) && word == `"`+w.Text+`"`
}

// step is what becomes of ways behind one more word; and the fault, if none goes on.
func step(ways []way, w lex.Token) ([]way, api.Fault) {
	var out []way
	code := api.ErrSyntax
	for _, v := range ways {
		expand(v, func(word string, then way) {
			if word != "" && isOf(w, word) {
				out = append(out, then)
			}
			if word == "int" && w.Kind == lex.Number {
				code = api.ErrNumber
			}
		})
	}
	if len(out) > 0 {
		return out, api.Fault{}
	}
	return nil, api.Fault{Code: code, At: w.At}
}

// mayEnd tells whether one of the ways may end here.
func mayEnd(ways []way) bool {
	ends := false
	for _, v := range ways {
		expand(v, func(word string, _ way) { ends = ends || word == "" })
	}
	return ends
}

// place is where a text's byte stands, or its end.
func place(text string, offset int) api.Pos {
	p := pos(1, 1)
	for _, b := range []byte(text[:offset]) {
		p.Col++
		if b == 10 {
			p = pos(p.Line+1, 1)
		}
	}
	return p
}

// modelFault is a text's fault.
func modelFault(text string) api.Fault {
	if len(text) > 65536 {
		return api.Fault{Code: api.ErrLong}
	}
	ways := beginning
	for w := range lex.Each(text) {
		var f api.Fault
		if ways, f = step(ways, w); f != (api.Fault{}) {
			return f
		}
	}
	if _, f := lex.Tokens(text); f != (api.Fault{}) {
		return f
	}
	if !mayEnd(ways) {
		return api.Fault{Code: api.ErrEnd, At: place(text, len(text))}
	}
	return api.Fault{}
}

// modelPlaces are the places of a text without a fault, by the things: a thing begins with a word outside of all braces.
func modelPlaces(text string) map[string]api.Pos {
	out := map[string]api.Pos{}
	note := func(thing string, at api.Pos) {
		if _, met := out[thing]; !met {
			out[thing] = at
		}
	}
	words, _ := lex.Tokens(text)
	deep := 0
	for i, w := range words {
		switch w.Text {
		case "{":
			deep++
		case "}":
			deep--
		case "meta", "control":
			if deep == 0 {
				note(w.Text, w.At)
			}
		case "header", "state", "action", "table":
			note(w.Text, w.At)
			note(w.Text+" "+words[i+1].Text, w.At)
		}
	}
	return out
}

// someNames are few, so that things are called alike.
var someNames = []string{"a", "b", "c", "x_1", "accepts", "e2345678901234567890123456789012"}

// someNumbers may be ints, or not.
var someNumbers = []string{"0", "1", "7", "0x10", "0b101", "0x00ff", "128", "2147483647", "0x7fffffff"}

// greatNumbers are no ints.
var greatNumbers = []string{"2147483648", "0x80000000", "4294967296", "4294967297", "18446744073709551616", "18446744073709551617", "0x80000000000000000000000000000001", "340282366920938463463374607431768211455"}

// drawWord is a word that the grammar names so.
func drawWord(r *rand.Rand, word string) string {
	switch word {
	case "name":
		return someNames[r.Intn(len(someNames))]
	case "number":
		list := slices.Concat(greatNumbers, someNumbers)
		return list[r.Intn(len(list))]
	case "int":
		return someNumbers[r.Intn(len(someNumbers))]
	}
	return strings.Trim(word, `"`)
}

// drawWords are the words of a text without a fault, of about so many.
func drawWords(r *rand.Rand, count int) []string {
	var list []string
	w := beginning[0]
	for {
		var words []string
		var thens []way
		last := -1
		expand(w, func(word string, then way) {
			// What is too long is brought to its end.
			if word == "" || word == `"}"` || word == `";"` {
				last = len(words)
			}
			words, thens = append(words, word), append(thens, then)
		})
		i := r.Intn(len(words))
		if last >= 0 && len(list) >= count {
			i = last
		}
		if words[i] == "" && len(list) < count {
			i = (i + 1) % len(words)
		}
		if words[i] == "" {
			return list
		}
		list = append(list, drawWord(r, words[i]))
		w = thens[i]
	}
}

// TestModel: the grammar is read as it is meant.
func TestModel(t *testing.T) {
	if len(rules) != 17 {
		t.Errorf("%d rules", len(rules))
	}
	for text, want := range map[string]api.Fault{
		"":                                 {},
		textT:                              {},
		"meta { } meta":                    {Code: api.ErrSyntax, At: pos(1, 10)},
		"action f() { meta.a = b | 3; }":   {},
		"action f() { meta.a = b | 3 | ":   {Code: api.ErrSyntax, At: pos(1, 29)},
		"action f() { meta.a = b\n | ":     {Code: api.ErrEnd, At: pos(2, 4)},
		"meta { a: 2147483648":             {Code: api.ErrNumber, At: pos(1, 11)},
		"table t { can a; size 1; default": {Code: api.ErrEnd, At: pos(1, 33)},
		"control { if a.b < c { !":         {Code: api.ErrWord, At: pos(1, 24)},
	} {
		if f := modelFault(text); f != want {
			t.Errorf("%q: %v; want %v", text, f, want)
		}
	}
}
