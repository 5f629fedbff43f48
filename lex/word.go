package lex

import (
	"strings"

	"turnout/api"
	"turnout/value"
)

// signs has the longest ones first: so the first one that stands at a place is the longest there.
var signs = [...]string{
	"==", "!=", "<=",
	"{", "}", "(", ")", ";", ":", ",", ".", "=", "<", "+", "-", "&", "|", "^",
}

// reserved has the words by rising bytes.
var reserved = [...]string{
	"accept", "action", "add", "again", "apply", "can", "control", "default", "drop", "else",
	"exact", "exit", "fixed", "header", "if", "key", "meta", "on", "prefix", "range",
	"reject", "remove", "size", "state", "sum", "table", "take", "ternary", "valid",
}

// bases are what a number that is not in tens begins with.
var bases = [...]string{"0x", "0b"}

// IsName tells whether a text is a name.
func IsName(s string) bool {
	if s == "" || len(s) > api.MaxName || isReserved(s) {
		return false
	}
	for i, r := range s {
		if !isSmall(r) && (i == 0 || !isDigit(r) && r != '_') {
			return false
		}
	}
	return true
}

// Reserved are the reserved words, sorted.
func Reserved() []string {
	list := reserved
	return list[:]
}

// isReserved tells whether a text is a reserved word.
func isReserved(s string) bool {
	for _, word := range reserved {
		if s == word {
			return true
		}
	}
	return false
}

// first is the word that a text begins with, but for its place.
func first(text string) (Token, api.Errno) {
	length := span(text, func(r rune) bool { return isSmall(r) || isCapital(r) || isDigit(r) || r == '_' })
	switch {
	case length == 0:
		return sign(text)
	case isDigit(rune(text[0])):
		return number(text[:length])
	}
	return lettered(text[:length])
}

// lettered is a word of letters.
func lettered(text string) (Token, api.Errno) {
	switch {
	case IsName(text):
		return Token{Kind: Name, Text: text}, api.OK
	case isReserved(text):
		return Token{Kind: Word, Text: text}, api.OK
	}
	return Token{}, api.ErrWord
}

// number is a word that begins with a digit.
func number(text string) (Token, api.Errno) {
	worth, e := value.Parse(plain(text), api.MaxWidth)
	if e != api.OK {
		return Token{}, api.ErrNumber
	}
	return Token{Kind: Number, Text: text, Value: worth}, api.OK
}

// plain is a number as package value reads it: there sixteens and twos have no noughts ahead, and sixteenths are small.
func plain(text string) string {
	for _, base := range bases {
		digits, ok := strings.CutPrefix(text, base)
		if !ok || digits == "" {
			continue
		}
		last := len(digits) - 1 // it stays, though it be a nought
		return base + strings.ToLower(strings.TrimLeft(digits[:last], "0")+digits[last:])
	}
	return text
}

// sign is the longest sign that a text begins with.
func sign(text string) (Token, api.Errno) {
	for _, s := range signs {
		if strings.HasPrefix(text, s) {
			return Token{Kind: Sign, Text: s}, api.OK
		}
	}
	return Token{}, api.ErrWord
}

func isBlank(r rune) bool { return r == ' ' || r == '\t' || r == '\n' || r == '\r' }

func isSmall(r rune) bool { return 'a' <= r && r <= 'z' }

func isCapital(r rune) bool { return 'A' <= r && r <= 'Z' }

func isDigit(r rune) bool { return '0' <= r && r <= '9' }
