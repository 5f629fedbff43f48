package syntax_test

import (
	"math/rand"
	"slices"
	"strings"
	"testing"

	"turnout/api"
	"turnout/lex"
	"turnout/schema"
	"turnout/syntax"
)

// read is what a text without a fault says.
func read(t *testing.T, text string) api.Schema {
	t.Helper()
	s, f := syntax.Schema(text)
	if f != (api.Fault{}) {
		t.Fatalf("%s: %v", short(text), f)
	}
	return s
}

func same(t *testing.T, what string, got, want api.Schema) {
	t.Helper()
	if !schema.Same(got, want) {
		t.Errorf("%s: %s; want %s", short(what), short(got), short(want))
	}
}

// P8.4

// TestBlanksAndForms: the same words, with other gaps, and the same numbers in other forms, say the same.
func TestBlanksAndForms(t *testing.T) {
	r := rand.New(rand.NewSource(5))
	for range 1000 {
		words := drawWords(r, 5+r.Intn(60))
		want := read(t, strings.Join(words, " "))
		w := &writer{Rand: r}
		for _, word := range words {
			if list, _ := lex.Tokens(word); list[0].Kind == lex.Number {
				w.number(list[0].Value)
			} else {
				w.word(word)
			}
		}
		w.gap(0)
		same(t, w.String(), read(t, w.String()), want)
	}
}

// things are those of a text without a fault, each with its words.
func things(words []string) [][]string {
	var list [][]string
	begin, deep := 0, 0
	for i, word := range words {
		switch word {
		case "{":
			deep++
		case "}":
			if deep--; deep == 0 {
				list = append(list, words[begin:i+1])
				begin = i + 1
			}
		}
	}
	return list
}

// TestOrder: things of unlike kinds may change places.
func TestOrder(t *testing.T) {
	r := rand.New(rand.NewSource(6))
	for range 1000 {
		words := drawWords(r, 20+r.Intn(80))
		list := things(words)
		if r.Intn(3) == 0 {
			words, list = texts(textAll), things(texts(textAll))
		}
		want := read(t, strings.Join(words, " "))
		for range 3 * len(list) {
			i := r.Intn(len(list))
			if i > 0 && list[i][0] != list[i-1][0] {
				list[i], list[i-1] = list[i-1], list[i]
			}
		}
		text := strings.Join(slices.Concat(list...), " ")
		same(t, text, read(t, text), want)
	}
}

// TestCut: a text that is cut behind a word ends too early, but where a thing ends.
func TestCut(t *testing.T) {
	r := rand.New(rand.NewSource(7))
	for i := range 60 {
		words := drawWords(r, 40)
		if i == 0 {
			words = texts(textAll)
		}
		ends := map[int]int{0: 0}
		sum := 0
		for _, thing := range things(words) {
			sum += len(thing)
			ends[sum] = len(ends)
		}
		if sum != len(words) {
			t.Fatalf("%d of %d words: %q", sum, len(words), words)
		}
		for j := range len(words) + 1 {
			text := spread(r, words[:j])
			if _, whole := ends[j]; whole {
				read(t, text)
			} else {
				checkFault(t, text, api.ErrEnd, place(text, len(text)))
			}
		}
	}
}

// TestBehindTheFault: what stands behind the word at fault changes nothing.
func TestBehindTheFault(t *testing.T) {
	r := rand.New(rand.NewSource(8))
	met := 0
	for range 3000 {
		words := turn(r, drawWords(r, 5+r.Intn(40)))
		text := spread(r, words)
		_, f := syntax.Schema(text)
		if f == (api.Fault{}) || f.Code == api.ErrEnd {
			continue
		}
		met++
		end := 0
		for i := range text {
			if place(text, i) == f.At {
				end = i + 1
			}
		}
		for end < len(text) && isLong(text[end-1]) && isLong(text[end]) {
			end++
		}
		if strings.HasPrefix(text[end:], "=") {
			end++
		}
		for _, tail := range []string{"", " ", " }", "\n!", " 007 ", " header x { }", "#", " " + textAll, "\n" + spread(r, drawWords(r, 20))} {
			if _, g := syntax.Schema(text[:end] + tail); g != f {
				t.Fatalf("%q, %q: %v; was %v", text[:end], tail, g, f)
			}
		}
		long := text[:end] + strings.Repeat(" ", api.MaxText-end)
		if _, g := syntax.Schema(long); g != f {
			t.Fatalf("%s: %v; was %v", short(long), g, f)
		}
		checkFault(t, long+" ", api.ErrLong, api.Pos{})
	}
	if met < 500 {
		t.Errorf("%d faults", met)
	}
}
