package syntax

import (
	"math"
	"slices"
	"strings"

	"turnout/api"
	"turnout/lex"
)

// A reader goes through a text's words, from the first one on. It gives up by a panic with the fault, which read catches, and with nothing else.
type reader struct {
	said
	words []lex.Token // those that were not read yet
	end   api.Fault   // what stands behind them: lex's fault, or the text's end
	bare  [][]int     // of each state the places of its cases without a mask
}

// newReader is a reader at a text's beginning.
func newReader(text string) *reader {
	words, end := lex.Tokens(text)
	if end.Code == api.OK {
		end = api.Fault{Code: api.ErrEnd, At: behind(text)}
	} else {
		// Tokens tells no word beside a fault; but a word ahead of it may be one that can't stand there.
		words = slices.Collect(lex.Each(text))
	}
	return &reader{said: said{places: map[string]api.Pos{}}, words: words, end: end}
}

// behind is the place just behind a text's last byte.
func behind(text string) api.Pos {
	return api.Pos{
		Line: 1 + strings.Count(text, "\n"),
		Col:  len(text) - strings.LastIndexByte(text, '\n'),
	}
}

// atEnd tells whether the whole text was read: behind the last word there is no fault.
func (r *reader) atEnd() bool { return len(r.words) == 0 && r.end.Code == api.ErrEnd }

// ahead is the next word, which is not read yet.
func (r *reader) ahead() lex.Token {
	if len(r.words) == 0 {
		panic(r.end)
	}
	return r.words[0]
}

// word reads the next word.
func (r *reader) word() lex.Token {
	word := r.ahead()
	r.words = r.words[1:]
	return word
}

// refuse gives up at a word that can't stand there.
func refuse(word lex.Token) { panic(api.Fault{Code: api.ErrSyntax, At: word.At}) }

// take reads the next word, if it is this reserved word or sign: no name and no number is written as one.
func (r *reader) take(text string) bool {
	if r.ahead().Text != text {
		return false
	}
	r.word()
	return true
}

// need reads a reserved word or a sign that must stand there.
func (r *reader) need(text string) {
	if !r.take(text) {
		refuse(r.ahead())
	}
}

// ofKind reads a word that must be of a kind.
func (r *reader) ofKind(kind int) lex.Token {
	word := r.ahead()
	if word.Kind != kind {
		refuse(word)
	}
	return r.word()
}

func (r *reader) name() string { return r.ofKind(lex.Name).Text }

func (r *reader) number() api.Bits { return r.ofKind(lex.Number).Value }

// whole reads the grammar's int.
func (r *reader) whole() int {
	word := r.ofKind(lex.Number)
	if word.Value.Hi > 0 || word.Value.Lo > math.MaxInt32 {
		panic(api.Fault{Code: api.ErrNumber, At: word.At})
	}
	return int(word.Value.Lo)
}

// inBraces reads a list in braces; each thing of it is read by what is handed over.
func (r *reader) inBraces(each func()) {
	r.need("{")
	for !r.take("}") {
		each()
	}
}

// inBrackets reads a list in round brackets, with commas between its things.
func (r *reader) inBrackets(each func()) {
	r.need("(")
	if r.take(")") {
		return
	}
	r.withCommas(each)
	r.need(")")
}

// withCommas reads one thing at least, and more of them behind commas.
func (r *reader) withCommas(each func()) {
	each()
	for r.take(",") {
		each()
	}
}
