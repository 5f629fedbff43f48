package match

import (
	"strconv"
	"strings"

	"turnout/api"
)

// What stands between the things of an entry's text.
const (
	comma        = ", "
	priorityMark = " @ "
	arrow        = " -> "
	opening      = "("
	closing      = ")"
)

// text is the text of a right entry.
func (k *table) text(e api.Entry) string {
	return k.whoText(e) + arrow + k.callText(e.Call)
}

// whoText is the text of the matches and the priority of an entry that may be in the table.
func (k *table) whoText(e api.Entry) string {
	var words []string
	for i, p := range k.parts {
		words = append(words, p.text(e.Match[i]))
	}
	text := strings.Join(words, comma)
	if k.ranked {
		text += priorityMark + strconv.Itoa(e.Priority)
	}
	return text
}

// callText is the text of a call that the table can have.
func (k *table) callText(c api.Call) string {
	var words []string
	for i, p := range k.params(c.Action) {
		words = append(words, hexOf(c.Args[i], p.Width))
	}
	return c.Action + opening + strings.Join(words, comma) + closing
}

// readEntry is the entry whose text it is, if it is one's; else any.
func (k *table) readEntry(text string) api.Entry {
	who, call, _ := strings.Cut(text, arrow)
	e := k.readWho(who)
	e.Call = k.readCall(call)
	return e
}

// readWho is the entry, with a zero Call, whose text it is, if it is one's; else any.
func (k *table) readWho(text string) api.Entry {
	words, priority, _ := strings.Cut(text, priorityMark)
	e := api.Entry{Priority: countOf(priority)}
	for _, p := range k.parts {
		var word string
		word, words, _ = strings.Cut(words, comma)
		e.Match = append(e.Match, p.read(word))
	}
	return e
}

// readCall is the call whose text it is, if it is one's; else any.
func (k *table) readCall(text string) api.Call {
	name, words, _ := strings.Cut(text, opening)
	words = strings.TrimSuffix(words, closing)
	c := api.Call{Action: strings.Clone(name)}
	for _, p := range k.params(name) {
		var word string
		word, words, _ = strings.Cut(words, comma)
		c.Args = append(c.Args, numberOf(word, p.Width))
	}
	return c
}
