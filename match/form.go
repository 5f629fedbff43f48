package match

import (
	"strconv"
	"strings"

	"turnout/api"
	"turnout/pack"
	"turnout/value"
)

// lenMark stands between a prefix and its Len in a text.
const lenMark = "/"

// A form is how a part's matches are written. What reads them takes anything: whether the text or the bytes are a match's is asked of the whole entry behind it.
type form struct {
	size   int // in bytes
	text   func(m api.Match) string
	read   func(text string) api.Match
	pack   func(w *pack.Writer, m api.Match)
	unpack func(r *pack.Reader) api.Match
}

// alone is the form of a Value.
func alone(width int) form {
	return form{
		size:   bytesOf(width),
		text:   func(m api.Match) string { return hexOf(m.Value, width) },
		read:   func(text string) api.Match { return api.Match{Value: numberOf(text, width)} },
		pack:   func(w *pack.Writer, m api.Match) { w.Bits(m.Value, width) },
		unpack: func(r *pack.Reader) api.Match { return api.Match{Value: r.Bits(width)} },
	}
}

// withLen is the form of a Value and a Len.
func withLen(width int) form {
	return form{
		size: bytesOf(width) + 1,
		text: func(m api.Match) string { return hexOf(m.Value, width) + lenMark + strconv.Itoa(m.Len) },
		read: func(text string) api.Match {
			first, second, _ := strings.Cut(text, lenMark)
			return api.Match{Value: numberOf(first, width), Len: countOf(second)}
		},
		pack: func(w *pack.Writer, m api.Match) {
			w.Bits(m.Value, width)
			w.Fixed(uint64(m.Len), 1)
		},
		unpack: func(r *pack.Reader) api.Match { return api.Match{Value: r.Bits(width), Len: int(r.Fixed(1))} },
	}
}

// withMask is the form of a Value and a Mask, with a mark between them in a text.
func withMask(width int, mark string) form {
	return form{
		size: 2 * bytesOf(width),
		text: func(m api.Match) string { return hexOf(m.Value, width) + mark + hexOf(m.Mask, width) },
		read: func(text string) api.Match {
			first, second, _ := strings.Cut(text, mark)
			return api.Match{Value: numberOf(first, width), Mask: numberOf(second, width)}
		},
		pack: func(w *pack.Writer, m api.Match) {
			w.Bits(m.Value, width)
			w.Bits(m.Mask, width)
		},
		unpack: func(r *pack.Reader) api.Match { return api.Match{Value: r.Bits(width), Mask: r.Bits(width)} },
	}
}

// bytesOf is how many bytes a width needs.
func bytesOf(width int) int { return (width + 7) / 8 }

// hexOf is the text of a value that fits a width.
func hexOf(a api.Bits, width int) string {
	text, _ := value.Text(a, width, value.Hex)
	return text
}

// numberOf is the value that a text says; 0, if it says none.
func numberOf(text string, width int) api.Bits {
	a, _ := value.Parse(text, width)
	return a
}

// countOf is the number that a text says in tens; any one, if it says none.
func countOf(text string) int {
	n, _ := strconv.Atoi(text)
	return n
}
