package lex_test

import (
	"fmt"
	"math/big"
	"math/rand"
	"regexp"
	"slices"
	"strings"
	"testing"

	"turnout/api"
	"turnout/lex"
)

// The chapter's words once more, as patterns: so the answers are held against something that was made another way.
var (
	between  = regexp.MustCompile(`^(?:[ \t\n\r]|#[^\n]*(?:\n|$))*`)
	letters  = regexp.MustCompile(`^[a-zA-Z_][a-zA-Z0-9_]*`)
	digits   = regexp.MustCompile(`^[0-9][a-zA-Z0-9_]*`)
	signs    = regexp.MustCompile(`^(?:==|!=|<=|[{}();:,.=<+\-&|^])`)
	isName   = regexp.MustCompile(`^[a-z][a-z0-9_]{0,31}$`)
	isWord   = regexp.MustCompile(`^(?:accept|action|add|again|apply|can|control|default|drop|else|exact|exit|fixed|header|if|key|meta|on|prefix|range|reject|remove|size|state|sum|table|take|ternary|valid)$`)
	isNumber = regexp.MustCompile(`^(?:0|[1-9][0-9]*|0x[0-9a-fA-F]+|0b[01]+)$`)
)

// worth is what a number's text says.
func worth(text string) (api.Bits, bool) {
	if !isNumber.MatchString(text) {
		return api.Bits{}, false
	}
	n, ok := new(big.Int).SetString(text, 0)
	if !ok || n.BitLen() > 128 {
		return api.Bits{}, false
	}
	return api.Bits{Hi: new(big.Int).Rsh(n, 64).Uint64(), Lo: new(big.Int).And(n, new(big.Int).SetUint64(1<<64-1)).Uint64()}, true
}

// word is the first word of a text that begins with one, but for its place.
func word(text string) (lex.Token, api.Errno) {
	if s := letters.FindString(text); s != "" {
		switch {
		case isWord.MatchString(s):
			return lex.Token{Kind: lex.Word, Text: s}, api.OK
		case isName.MatchString(s):
			return lex.Token{Kind: lex.Name, Text: s}, api.OK
		}
		return lex.Token{}, api.ErrWord
	}
	if s := digits.FindString(text); s != "" {
		if a, ok := worth(s); ok {
			return lex.Token{Kind: lex.Number, Text: s, Value: a}, api.OK
		}
		return lex.Token{}, api.ErrNumber
	}
	if s := signs.FindString(text); s != "" {
		return lex.Token{Kind: lex.Sign, Text: s}, api.OK
	}
	return lex.Token{}, api.ErrWord
}

// places are where each byte of a text stands, and its end.
func places(text string) []api.Pos {
	list := make([]api.Pos, 0, len(text)+1)
	at := api.Pos{Line: 1, Col: 1}
	for _, b := range []byte(text) {
		list = append(list, at)
		at.Col++
		if b == 10 {
			at.Line, at.Col = at.Line+1, 1
		}
	}
	return append(list, at)
}

// read is what a text has: its words up to the fault, and the fault.
func read(text string) ([]lex.Token, api.Fault) {
	if len(text) > 65536 {
		return nil, api.Fault{Code: api.ErrLong}
	}
	var list []lex.Token
	at := places(text)
	for i := 0; ; {
		i += len(between.FindString(text[i:]))
		if i == len(text) {
			return list, api.Fault{}
		}
		w, e := word(text[i:])
		if e != api.OK {
			return list, api.Fault{Code: e, At: at[i]}
		}
		w.At = at[i]
		list = append(list, w)
		i += len(w.Text)
	}
}

// collected are the words that Each tells.
func collected(text string) []lex.Token {
	var list []lex.Token
	for w := range lex.Each(text) {
		list = append(list, w)
	}
	return list
}

// checkBoth holds Tokens and Each of a text against its words up to the fault, and the fault.
func checkBoth(t *testing.T, text string, words []lex.Token, fault api.Fault) {
	t.Helper()
	if got := collected(text); !slices.Equal(got, words) {
		t.Fatalf("Each(%s): %s; want %s", short(text), some(got), some(words))
	}
	got, f := lex.Tokens(text)
	if fault != (api.Fault{}) {
		words = nil
	}
	if f != fault || !slices.Equal(got, words) {
		t.Fatalf("Tokens(%s): %s, %v; want %s, %v", short(text), some(got), f, some(words), fault)
	}
}

func checkRead(t *testing.T, text string) {
	t.Helper()
	words, fault := read(text)
	checkBoth(t, text, words, fault)
}

func checkFault(t *testing.T, text string, code api.Errno, line, col int) {
	t.Helper()
	list, f := lex.Tokens(text)
	if want := (api.Fault{Code: code, At: api.Pos{Line: line, Col: col}}); f != want || len(list) > 0 {
		t.Errorf("Tokens(%s): %s, %v; want none, %v", short(text), some(list), f, want)
	}
	checkRead(t, text)
}

// checkOne: the text is one word, as it stands.
func checkOne(t *testing.T, text string, kind int, a api.Bits) {
	t.Helper()
	checkBoth(t, text, []lex.Token{{Kind: kind, Text: text, Value: a, At: api.Pos{Line: 1, Col: 1}}}, api.Fault{})
}

// checkTexts: the words of a text, by their texts alone.
func checkTexts(t *testing.T, text string, want ...string) {
	t.Helper()
	list, f := lex.Tokens(text)
	var got []string
	for _, w := range list {
		got = append(got, w.Text)
	}
	if f != (api.Fault{}) || !slices.Equal(got, want) {
		t.Errorf("Tokens(%s): %q, %v; want %q", short(text), got, f, want)
	}
	checkRead(t, text)
}

// short is a text in few words.
func short(text string) string {
	if len(text) <= 60 {
		return fmt.Sprintf("%q", text)
	}
	return fmt.Sprintf("%.60q of %d", text, len(text))
}

// some are the first words of a list.
func some(list []lex.Token) string {
	if len(list) <= 8 {
		return fmt.Sprintf("%+v", list)
	}
	return fmt.Sprintf("%+v and more, %d in all", list[:8], len(list))
}

func lo(n uint64) api.Bits { return api.Bits{Lo: n} }

// most is 2^128 - 1.
func most() api.Bits { return api.Bits{Hi: 1<<64 - 1, Lo: 1<<64 - 1} }

func named(text string, line, col int) lex.Token {
	return lex.Token{Kind: lex.Name, Text: text, At: api.Pos{Line: line, Col: col}}
}

// pieces are what drawn texts are made of; the faults come last.
func pieces() (right, faulty []string) {
	right = []string{
		" ", "  ", "\t", "\r", "\n", "\r\n", "\n\n", "# remark\n", "#\n", "## \xc8\xff \u00e4\u20ac\U0001f600 #\n", "# a ! 007 Ab\n",
		"a", "z9", "a_", "tcp_port", "insert", "x", "b", "accepts", "o", "ins", "a0x", "sum2", strings.Repeat("q", 32),
		"on", "meta", "accept", "valid", "ternary", "if", "table",
		"0", "7", "10", "255", "0x0", "0x0a", "0xFf", "0b0", "0b101", "0b0001", "0x00000000000000000000000000000000000000001",
		"340282366920938463463374607431768211455", "0x10000000000000000", "0b1" + strings.Repeat("0", 127),
		"{", "}", "(", ")", ";", ":", ",", ".", "=", "==", "!=", "<", "<=", "+", "-", "&", "|", "^",
	}
	faulty = []string{
		"!", ">", "A", "Zz", "_", "_a", strings.Repeat("q", 33), "\x00", "\x7f", "\x80", "\xc8", "\xff", "\u00e4", "\u0430", "\u00a0", "\u2028", "\ufffd",
		"\v", "\f", "\"", "'", "/", "*", "%", "$", "@", "~", "`", "?", "\\", "[", "]",
		"00", "007", "0x", "0b", "0b2", "0X1", "0B1", "12a", "1_0", "0xg", "0x_1", "340282366920938463463374607431768211456", "0x100000000000000000000000000000000", "0b1" + strings.Repeat("0", 128),
	}
	return right, faulty
}

// drawn is a text of so many pieces, of which now and then one is a fault, if it may be.
func drawn(r *rand.Rand, n int, faults bool) string {
	right, faulty := pieces()
	var b strings.Builder
	for range n {
		if faults && r.Intn(12) == 0 {
			b.WriteString(faulty[r.Intn(len(faulty))])
		} else {
			b.WriteString(right[r.Intn(len(right))])
		}
		if r.Intn(5) > 0 {
			b.WriteByte(" \n\t\r"[r.Intn(4)])
		}
	}
	return b.String()
}

// drawnBytes is a text of any bytes, more often those that words are made of.
func drawnBytes(r *rand.Rand, n int) string {
	const likely = "ab_xX09=!<>#\n \r{.&"
	b := make([]byte, n)
	for i := range b {
		b[i] = likely[r.Intn(len(likely))]
		if r.Intn(10) == 0 {
			b[i] = byte(r.Intn(256))
		}
	}
	return string(b)
}

// TestExamples: those of the chapter, in their order.
func TestExamples(t *testing.T) {
	text := "on ip.dst { 0x0a & 255: up; } # end"
	at := func(kind int, s string, col int, n uint64) lex.Token {
		return lex.Token{Kind: kind, Text: s, Value: lo(n), At: api.Pos{Line: 1, Col: col}}
	}
	checkBoth(t, text, []lex.Token{
		at(lex.Word, "on", 1, 0), at(lex.Name, "ip", 4, 0), at(lex.Sign, ".", 6, 0), at(lex.Name, "dst", 7, 0),
		at(lex.Sign, "{", 11, 0), at(lex.Number, "0x0a", 13, 10), at(lex.Sign, "&", 18, 0), at(lex.Number, "255", 20, 255),
		at(lex.Sign, ":", 23, 0), at(lex.Name, "up", 25, 0), at(lex.Sign, ";", 27, 0), at(lex.Sign, "}", 29, 0),
	}, api.Fault{})
	checkTexts(t, "a==b<=c=d!=e", "a", "==", "b", "<=", "c", "=", "d", "!=", "e")
	checkOne(t, "0x1F", lex.Number, lo(31))
	checkOne(t, "0b101", lex.Number, lo(5))
	checkOne(t, "0", lex.Number, lo(0))
	checkTexts(t, "a.1", "a", ".", "1")
	for _, s := range []string{"007", "0x", "0b2", "12a", "0X1", "340282366920938463463374607431768211456"} {
		checkFault(t, s, api.ErrNumber, 1, 1)
	}
	checkOne(t, "340282366920938463463374607431768211455", lex.Number, most())
	checkFault(t, "a ! b", api.ErrWord, 1, 3)
	checkFault(t, "a > b", api.ErrWord, 1, 3)
	for _, s := range []string{"\xc8", "Ab", "_a", strings.Repeat("a", 33)} {
		checkFault(t, s, api.ErrWord, 1, 1)
	}
	checkBoth(t, "\n\nx\ry", []lex.Token{named("x", 3, 1), named("y", 3, 3)}, api.Fault{})
	for s, want := range map[string]bool{"tcp_port": true, "table": false, "Tcp": false, "": false} {
		if lex.IsName(s) != want {
			t.Errorf("IsName(%q): %v", s, !want)
		}
	}
}

// TestKinds: the numbers that the chapter gives them.
func TestKinds(t *testing.T) {
	if got := [4]int{lex.Name, lex.Word, lex.Number, lex.Sign}; got != [4]int{1, 2, 3, 4} {
		t.Error(got)
	}
}

// P6.1

func TestNoWords(t *testing.T) {
	for _, s := range []string{
		"", " ", "\t", "\n", "\r", " \t\n\r", "\r\n\r\n", "#", "# a", "#\n", "# a\n", "##", "#\n#", "\n# a\n \t# b\r\n", "#\r#",
		"# 007 ! Ab _ > 0x", "# \x00\x7f\x80\xc8\xff", "# \u00e4\u20ac\U0001f600", "#\xe2\x82\n#\xe2\x82", "#\xc3\n", strings.Repeat(" ", 65536), "#" + strings.Repeat("!", 65535), strings.Repeat("#\n", 32768),
	} {
		checkBoth(t, s, nil, api.Fault{})
	}
}

// TestRemarks: up to the next byte 10, and that alone ends one.
func TestRemarks(t *testing.T) {
	checkBoth(t, "a# b\nc#d\re\n#\nf", []lex.Token{named("a", 1, 1), named("c", 2, 1), named("f", 4, 1)}, api.Fault{})
	checkBoth(t, "#\xc3\na", []lex.Token{named("a", 2, 1)}, api.Fault{})
	checkBoth(t, "#\xe2\x82\n\xe2", nil, api.Fault{Code: api.ErrWord, At: api.Pos{Line: 2, Col: 1}})
	checkBoth(t, "# \u2028\u0085 a\nb", []lex.Token{named("b", 2, 1)}, api.Fault{})
	checkTexts(t, "a#", "a")
	checkTexts(t, "1#2\n3", "1", "3")
	checkTexts(t, "=#\n=", "=", "=")
	checkTexts(t, "a#\nb", "a", "b")
}

// TestFirstBytes: what each of the 256 is, alone, behind a blank, within a word, and behind one.
func TestFirstBytes(t *testing.T) {
	for b := range 256 {
		s := string([]byte{byte(b)})
		switch {
		case strings.Contains(" \t\n\r#", s):
			checkBoth(t, s, nil, api.Fault{})
		case strings.Contains("{}();:,.=<+-&|^", s):
			checkOne(t, s, lex.Sign, api.Bits{})
		case b >= '0' && b <= '9':
			checkOne(t, s, lex.Number, lo(uint64(b-'0')))
		case b >= 'a' && b <= 'z':
			checkOne(t, s, lex.Name, api.Bits{})
		default:
			checkFault(t, s, api.ErrWord, 1, 1)
			checkFault(t, " "+s, api.ErrWord, 1, 2)
			checkFault(t, "\n"+s, api.ErrWord, 2, 1)
			checkFault(t, "a "+s+"b", api.ErrWord, 1, 3)
		}
		for _, ahead := range []string{"", "a", "0", "1", "0x", "0b1", "=", "!", "<", "on", "# "} {
			for _, behind := range []string{"", "a", "1", "=", "\n", " b"} {
				checkRead(t, ahead+s+behind)
			}
		}
	}
}

// TestHighBytes: above 127 no word begins, and none goes on.
func TestHighBytes(t *testing.T) {
	for b := 128; b < 256; b++ {
		s := string([]byte{byte(b)})
		checkFault(t, s+"a", api.ErrWord, 1, 1)
		checkFault(t, "a"+s, api.ErrWord, 1, 2)
		checkFault(t, "ab"+s+"c", api.ErrWord, 1, 3)
		checkFault(t, "12"+s+"3", api.ErrWord, 1, 3)
		checkFault(t, "=="+s, api.ErrWord, 1, 3)
		checkTexts(t, "a # "+s+"\nb", "a", "b")
	}
	for _, s := range []string{"\u00e4", "\u0430", "\u00a0", "\u0660", "\u20ac", "\ufffd", "\ufeff", "\U0001f600"} {
		checkFault(t, s, api.ErrWord, 1, 1)
		checkFault(t, "a"+s, api.ErrWord, 1, 2)
		checkFault(t, "1"+s, api.ErrWord, 1, 2)
		checkTexts(t, "#"+s+"\na", "a")
	}
}

func TestNamesAsWords(t *testing.T) {
	for _, s := range []string{"a", "z", "a0", "a9", "a_", "a__", "z_9_z", "tcp_port", "insert", "accepts", "accep", "on_", "on1", "o", "sums", "meta0", "tables", strings.Repeat("a", 32), "a" + strings.Repeat("_", 31), "a" + strings.Repeat("9", 31)} {
		checkOne(t, s, lex.Name, api.Bits{})
		checkTexts(t, s+"."+s, s, ".", s)
	}
	for _, s := range lex.Reserved() {
		checkOne(t, s, lex.Word, api.Bits{})
		checkOne(t, s+"x", lex.Name, api.Bits{})
		checkOne(t, s[:len(s)-1]+"_", lex.Name, api.Bits{})
		checkTexts(t, s+" "+s, s, s)
		checkFault(t, strings.ToUpper(s), api.ErrWord, 1, 1)
		checkFault(t, strings.ToUpper(s[:1])+s[1:], api.ErrWord, 1, 1)
		checkFault(t, "_"+s, api.ErrWord, 1, 1)
	}
	for _, s := range []string{"A", "Z", "_", "__", "_1", "_a", "aB", "aZ", "Ab", "a_B", "AB", strings.Repeat("a", 33), strings.Repeat("a", 65536), "a" + strings.Repeat("_", 32), strings.Repeat("a", 31) + "A"} {
		checkFault(t, s, api.ErrWord, 1, 1)
		if len(s) < 65536 {
			checkFault(t, "a "+s, api.ErrWord, 1, 3)
		}
	}
}

func TestSigns(t *testing.T) {
	all := []string{"{", "}", "(", ")", ";", ":", ",", ".", "=", "==", "!=", "<", "<=", "+", "-", "&", "|", "^"}
	for _, s := range all {
		checkOne(t, s, lex.Sign, api.Bits{})
		checkTexts(t, "a"+s+"b", "a", s, "b")
		checkTexts(t, "1"+s+"2", "1", s, "2")
		for _, u := range all {
			checkRead(t, s+u)
			checkTexts(t, s+" "+u, s, u)
			for _, v := range all {
				checkRead(t, s+u+v)
			}
		}
	}
	checkTexts(t, "===", "==", "=")
	checkTexts(t, "====", "==", "==")
	checkTexts(t, "= =", "=", "=")
	checkTexts(t, "<==", "<=", "=")
	checkTexts(t, "<<=", "<", "<=")
	checkTexts(t, "=<", "=", "<")
	checkTexts(t, "!==", "!=", "=")
	checkTexts(t, "&&", "&", "&")
	checkTexts(t, "..", ".", ".")
	checkFault(t, "!", api.ErrWord, 1, 1)
	checkFault(t, "! =", api.ErrWord, 1, 1)
	checkFault(t, "!!=", api.ErrWord, 1, 1)
	checkFault(t, ">", api.ErrWord, 1, 1)
	checkFault(t, ">=", api.ErrWord, 1, 1)
	checkFault(t, "=!", api.ErrWord, 1, 2)
	checkFault(t, "<>", api.ErrWord, 1, 2)
	checkFault(t, "->", api.ErrWord, 1, 2)
}

func TestNumbers(t *testing.T) {
	for n := range uint64(3000) {
		for _, s := range []string{fmt.Sprint(n), fmt.Sprintf("0x%x", n), fmt.Sprintf("0x%X", n), fmt.Sprintf("0x%05x", n), fmt.Sprintf("0b%b", n), fmt.Sprintf("0b%016b", n)} {
			checkOne(t, s, lex.Number, lo(n))
		}
	}
	for s, want := range map[string]api.Bits{
		"0x0": {}, "0x00": {}, "0b0": {}, "0b00": {}, "0xabcdef": lo(0xabcdef), "0xABCDEF": lo(0xabcdef), "0xaBcDeF": lo(0xabcdef), "0xb1": lo(0xb1), "0x0b1": lo(0xb1),
		"18446744073709551615": lo(1<<64 - 1), "18446744073709551616": {Hi: 1}, "0x10000000000000000": {Hi: 1}, "0b1" + strings.Repeat("0", 64): {Hi: 1},
		"0x" + strings.Repeat("f", 32): most(), "0x" + strings.Repeat("F", 32): most(), "0b" + strings.Repeat("1", 128): most(),
		"0x0" + strings.Repeat("f", 32): most(), "0b00" + strings.Repeat("1", 128): most(),
		"0x" + strings.Repeat("0", 65533) + "1": lo(1), "0b" + strings.Repeat("0", 65533) + "1": lo(1), "0x" + strings.Repeat("0", 65534): {},
		"100000000000000000000000000000000000000": {Hi: 5421010862427522170, Lo: 687399551400673280},
	} {
		checkOne(t, s, lex.Number, want)
	}
}

func TestNoNumbers(t *testing.T) {
	for _, s := range []string{
		"00", "01", "007", "000", "09", "0_", "0a", "0z", "0X", "0X1", "0B", "0B1", "0o7", "1x", "1_", "1_000", "12a", "12A", "1e5", "9Z", "0_x1",
		"0x", "0x_", "0x_1", "0x1_", "0xg", "0x1g", "0xG", "0xx1", "0x0x1", "0xX", "0x1z", "0b", "0b2", "0b12", "0b1a", "0b_", "0b1_", "0ba", "0bb1", "0b0b1", "0b0x1", "0bA", "0b9",
		"340282366920938463463374607431768211456", "340282366920938463463374607431768211460", "1" + strings.Repeat("0", 39), "999999999999999999999999999999999999999",
		"0x1" + strings.Repeat("0", 32), "0b1" + strings.Repeat("0", 128), "0x" + strings.Repeat("f", 33), "0b" + strings.Repeat("1", 129), "0x01" + strings.Repeat("0", 32),
		strings.Repeat("9", 65536), "0x" + strings.Repeat("f", 65534), strings.Repeat("0", 65536),
	} {
		checkFault(t, s, api.ErrNumber, 1, 1)
		if len(s) < 65536 {
			checkFault(t, " "+s, api.ErrNumber, 1, 2)
		}
	}
	checkFault(t, "a\n 1a.5", api.ErrNumber, 2, 2)
	checkTexts(t, "1.5", "1", ".", "5")
	checkTexts(t, "-1", "-", "1")
	checkTexts(t, "0 0x1", "0", "0x1")
}

// TestPlaces: a byte 10 alone begins a line; columns are bytes.
func TestPlaces(t *testing.T) {
	checkBoth(t, "a\nb\n\n  c\r\n\td e\n# x\n f", []lex.Token{
		named("a", 1, 1), named("b", 2, 1), named("c", 4, 3), named("d", 5, 2), named("e", 5, 4), named("f", 7, 2),
	}, api.Fault{})
	checkBoth(t, "\r\r\ta", []lex.Token{named("a", 1, 4)}, api.Fault{})
	checkBoth(t, "# \u20ac\n# \u20ac\n a", []lex.Token{named("a", 3, 2)}, api.Fault{})
	checkFault(t, "abc\n de ==!\n", api.ErrWord, 2, 7)
	checkFault(t, "abc\n\n\n  de == 00\n", api.ErrNumber, 4, 9)
	checkBoth(t, strings.Repeat("\n", 65535)+"a", []lex.Token{named("a", 65536, 1)}, api.Fault{})
	checkBoth(t, strings.Repeat(" ", 65535)+"a", []lex.Token{named("a", 1, 65536)}, api.Fault{})
}

// TestFirstFault: nothing behind it is read.
func TestFirstFault(t *testing.T) {
	_, faulty := pieces()
	for _, s := range faulty {
		for _, u := range faulty {
			checkRead(t, "a "+s+" "+u+" b")
			checkRead(t, s+"\n"+u)
		}
	}
	checkFault(t, "007 Ab", api.ErrNumber, 1, 1)
	checkFault(t, "Ab 007", api.ErrWord, 1, 1)
	checkFault(t, "# 007\nAb 007", api.ErrWord, 2, 1)
}

// TestLong: 65536 bytes may be, and with one more there are no words and no place, whatever they are.
func TestLong(t *testing.T) {
	for _, piece := range []string{" ", "a ", "a\n", "=", "1 ", "#\n", "on 0x1F==b\n", "# \u20ac\n"} {
		whole := strings.Repeat(piece, 65536/len(piece)+1)[:65536]
		checkRead(t, whole)
		for _, behind := range []string{" ", "a", "!", "\n", whole, "\xff"} {
			checkBoth(t, whole+behind, nil, api.Fault{Code: api.ErrLong})
		}
	}
	for _, ahead := range []string{"!", "007 ", "\xc8", "a ", "# "} {
		checkBoth(t, ahead+strings.Repeat(" ", 65537-len(ahead)), nil, api.Fault{Code: api.ErrLong})
		checkRead(t, ahead+strings.Repeat(" ", 65536-len(ahead)))
	}
	checkFault(t, strings.Repeat("a ", 32767)+" !", api.ErrWord, 1, 65536)
	list, f := lex.Tokens(strings.Repeat("a ", 32768))
	if len(list) != 32768 || f != (api.Fault{}) {
		t.Errorf("%d words, %v", len(list), f)
	}
	list, f = lex.Tokens(strings.Repeat("=.", 32768))
	if len(list) != 65536 || f != (api.Fault{}) {
		t.Errorf("%d words, %v", len(list), f)
	}
}

// TestShortTexts: all of up to four bytes out of a few.
func TestShortTexts(t *testing.T) {
	const few = "aB_01xb=!<#\n \xc3"
	texts := []string{""}
	for range 4 {
		var longer []string
		for _, s := range texts {
			for i := range len(few) {
				longer = append(longer, s+few[i:i+1])
			}
		}
		for _, s := range longer {
			checkRead(t, s)
		}
		texts = longer
	}
}

func TestDrawn(t *testing.T) {
	r := rand.New(rand.NewSource(1))
	for i := range 20000 {
		checkRead(t, drawn(r, r.Intn(40), i%2 == 0))
		checkRead(t, drawnBytes(r, r.Intn(30)))
	}
}
