package schema

import "turnout/api"

// IsName tells whether a text is a name.
func IsName(text string) bool {
	if text == "" || len(text) > api.MaxName || isReserved(text) {
		return false
	}
	for i, r := range text {
		if !isLetter(r) && (i == 0 || !isDigit(r) && r != '_') {
			return false
		}
	}
	return true
}

// isReserved tells whether a text is a reserved word.
func isReserved(text string) bool {
	switch text {
	case "accept", "action", "add", "again", "apply", "can", "control", "default", "drop", "else",
		"exact", "exit", "fixed", "header", "if", "key", "meta", "on", "prefix", "range",
		"reject", "remove", "size", "state", "sum", "table", "take", "ternary", "valid":
		return true
	}
	return false
}

func isLetter(r rune) bool { return 'a' <= r && r <= 'z' }

func isDigit(r rune) bool { return '0' <= r && r <= '9' }
