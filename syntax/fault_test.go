package syntax_test

import (
	"math/rand"
	"reflect"
	"slices"
	"strings"
	"testing"

	"turnout/api"
	"turnout/lex"
	"turnout/syntax"
)

// The fault

// textAll has something of everything that the grammar knows; it is sound.
const textAll = `# all of it
header eth { dst: 48; src: 48; type: 16; }
header ip { ttl: 8; proto: 0b1000; src: 0x20; check: 16; }
meta { port: 9; mark: 32; }
state first { take eth; on eth.type { 0x800: second; 0x10 & 0xf0: reject; 1: accept; } else accept; }
state second { take ip; else third; }
state third { take ip; on meta.port { } else reject; }
action out(p: 9) { meta.port = p; }
action hop(d: 48, m: 32) {
	ip.ttl = ip.ttl - 1; eth.dst = d; meta.mark = meta.mark ^ m; ip.src = ip.src + 0;
	ip.src = ip.src & meta.mark; ip.src = m | ip.src; sum ip.check; add ip; remove eth; again;
}
action none() { drop; }
action empty() { }
table route { key ip.src prefix; key ip.proto exact; can out, hop, none; size 64; default none(); }
table acl { key meta.port range; key eth.src ternary; can out; size 4096; default out(511) fixed; }
table mac { key eth.dst exact; can hop; size 1; default hop(1, 2); }
control {
	if valid ip { apply route { apply acl; exit; } else { exit; } } else { }
	if meta.port < 511 { } else { if ip.src != meta.mark { apply mac { } } }
	if 1 <= ip.ttl { } if ip.ttl == 3 { exit; }
}
`

// vocabulary has each reserved word and sign, names, numbers, and what is no word.
func vocabulary() []string {
	return slices.Concat(fixedWords(), someNames, someNumbers, greatNumbers, []string{"!", ">", "Ab", "_a", "08", "1a", "\xff", "$"})
}

// fixedWords are the reserved words and the signs.
func fixedWords() []string {
	return append(lex.Reserved(), strings.Fields("{ } ( ) ; : , . = == != < <= + - & | ^")...)
}

// texts are the words' texts of a source text.
func texts(text string) []string {
	var list []string
	for w := range lex.Each(text) {
		list = append(list, w.Text)
	}
	return list
}

// checkModel holds a text's fault against the grammar's.
func checkModel(t *testing.T, text string) api.Fault {
	t.Helper()
	want := modelFault(text)
	if s, f := syntax.Schema(text); f != want || f != (api.Fault{}) && !reflect.ValueOf(s).IsZero() {
		t.Fatalf("%s: %v, %s; want %v", short(text), f, short(s), want)
	}
	return want
}

// checkAll holds what all three calls tell of a text against its fault, if the grammar has one.
func checkAll(t *testing.T, text string) api.Fault {
	t.Helper()
	f := checkModel(t, text)
	if f != (api.Fault{}) {
		checkFault(t, text, f.Code, f.At)
	}
	if t.Failed() {
		t.FailNow()
	}
	return f
}

// TestEachWordEverywhere: at each place of each thing stands each word once, and the thing goes on, or the text ends.
func TestEachWordEverywhere(t *testing.T) {
	all := append(fixedWords(), "a", "7", "2147483648", "18446744073709551617", "!")
	met := map[api.Errno]int{}
	whole := things(texts(textAll))
	for _, words := range append(whole, slices.Concat(whole[1:5]...)) {
		for i := range len(words) + 1 {
			ahead, behind := strings.Join(words[:i], " "), strings.Join(words[min(i+1, len(words)):], "\n")
			checkModel(t, ahead)
			for _, word := range all {
				met[checkModel(t, ahead+" "+word).Code]++
				met[checkModel(t, ahead+" "+word+" "+behind).Code]++
			}
			met[checkModel(t, ahead+"\n"+behind).Code]++
		}
	}
	for _, e := range []api.Errno{api.OK, api.ErrEnd, api.ErrSyntax, api.ErrNumber, api.ErrWord} {
		if met[e] == 0 {
			t.Errorf("the error %d was not met", e)
		}
	}
}

// turn changes something in a list of words.
func turn(r *rand.Rand, words []string) []string {
	all := vocabulary()
	word := all[r.Intn(len(all))]
	i, j := r.Intn(len(words)+1), r.Intn(len(words)+1)
	i, j = min(i, j), max(i, j)
	switch r.Intn(7) {
	case 0:
		return slices.Concat(words[:i], []string{word}, words[i:])
	case 1:
		return slices.Concat(words[:i], words[min(i+1, len(words)):])
	case 2:
		return slices.Concat(words[:i], []string{word}, words[min(i+1, len(words)):])
	case 3:
		return slices.Clone(words[:i])
	case 4:
		return slices.Concat(words[:j], words[i:])
	case 5:
		return slices.Concat(words[:i], words[j:])
	}
	return slices.Concat(words[j:], words[:j])
}

// spread writes words with gaps between them.
func spread(r *rand.Rand, words []string) string {
	w := &writer{Rand: r}
	for _, word := range words {
		w.word(word)
	}
	w.gap(0)
	return w.String()
}

func TestDrawnFaults(t *testing.T) {
	r := rand.New(rand.NewSource(1))
	met := map[api.Errno]int{}
	for range 6000 {
		words := drawWords(r, r.Intn(60))
		if f := checkModel(t, spread(r, words)); f != (api.Fault{}) {
			t.Fatalf("%q: %v", words, f)
		}
		for range 1 + r.Intn(3) {
			words = turn(r, words)
		}
		met[checkAll(t, spread(r, words)).Code]++
	}
	for _, e := range []api.Errno{api.OK, api.ErrEnd, api.ErrSyntax, api.ErrNumber, api.ErrWord} {
		if met[e] < 50 {
			t.Errorf("the error %d was met %d times", e, met[e])
		}
	}
}

// TestDrawnBytes: any bytes are a text.
func TestDrawnBytes(t *testing.T) {
	r := rand.New(rand.NewSource(2))
	for range 3000 {
		b := []byte(textAll)
		for range r.Intn(4) {
			b[r.Intn(len(b))] = byte(r.Intn(256))
		}
		b = b[:r.Intn(len(b)+1)]
		checkModel(t, string(b))
		for i := range b {
			b[i] = byte(r.Intn(256))
		}
		checkModel(t, string(b[:r.Intn(min(len(b), 20)+1)]))
	}
}

// TestLexFault: it counts just if the words ahead of it can stand there.
func TestLexFault(t *testing.T) {
	checkFault(t, "!", api.ErrWord, pos(1, 1))
	checkFault(t, "header Eth { }", api.ErrWord, pos(1, 8))
	checkFault(t, "header x { a: 1; } !", api.ErrWord, pos(1, 20))
	checkFault(t, "header x { a: 1; }\n\n  007", api.ErrNumber, pos(3, 3))
	checkFault(t, "header x { a: 1; } 7 !", api.ErrSyntax, pos(1, 20))
	checkFault(t, "header x { a 1; } !", api.ErrSyntax, pos(1, 14))
	checkFault(t, "header x { a: 2147483648; } !", api.ErrNumber, pos(1, 15))
	checkFault(t, "control { if a !", api.ErrWord, pos(1, 16))
	checkFault(t, "control { apply t { } !", api.ErrWord, pos(1, 23))
	checkFault(t, "control { } control !", api.ErrSyntax, pos(1, 13))
	checkFault(t, "header !", api.ErrWord, pos(1, 8))
	checkFault(t, "header 0x", api.ErrNumber, pos(1, 8))
	checkFault(t, "control { if a.b > 1 { } }", api.ErrWord, pos(1, 18))
	checkFault(t, "header a234567890123456789012345678901234 { }", api.ErrWord, pos(1, 8))
}

// TestInts: they end at 2147483647, in whatever form, and wherever an int stands.
func TestInts(t *testing.T) {
	for _, around := range [][2]string{{"header x { a: ", "; }"}, {"meta { a: ", "; }"}, {"action f(a: ", ") { }"}, {"table t { can f; size ", "; default f(); }"}} {
		for _, great := range greatNumbers {
			checkFault(t, around[0]+great+around[1], api.ErrNumber, pos(1, len(around[0])+1))
			checkFault(t, around[0]+great, api.ErrNumber, pos(1, len(around[0])+1))
		}
		for _, s := range []string{"2147483647", "0x7fffffff", "0x00000000000000000000000000000000000007FFFFFFF", "0b1111111111111111111111111111111"} {
			got, f := syntax.Schema(around[0] + s + around[1])
			if f != (api.Fault{}) {
				t.Fatalf("%s%s%s: %v", around[0], s, around[1], f)
			}
			sum := 0
			for _, h := range got.Headers {
				sum += h.Fields[0].Width
			}
			for _, x := range got.Meta {
				sum += x.Width
			}
			for _, a := range got.Actions {
				sum += a.Params[0].Width
			}
			for _, x := range got.Tables {
				sum += x.Size
			}
			if sum != 2147483647 {
				t.Errorf("%s%s%s: %d", around[0], s, around[1], sum)
			}
		}
		checkFault(t, around[0]+"a", api.ErrSyntax, pos(1, len(around[0])+1))
		checkFault(t, around[0]+"-1", api.ErrSyntax, pos(1, len(around[0])+1))
	}
}

// TestEnd: ErrEnd stands behind the text's last byte, be it a blank's or a remark's.
func TestEnd(t *testing.T) {
	checkFault(t, "header", api.ErrEnd, pos(1, 7))
	checkFault(t, "header ", api.ErrEnd, pos(1, 8))
	checkFault(t, "header eth { # x", api.ErrEnd, pos(1, 17))
	checkFault(t, "header eth { # x\n", api.ErrEnd, pos(2, 1))
	checkFault(t, "header\n\neth\n {\n\n  ", api.ErrEnd, pos(6, 3))
	checkFault(t, "meta { # \xff\xc3\xa9\r", api.ErrEnd, pos(1, 14))
	checkFault(t, "meta {\n# }", api.ErrEnd, pos(2, 4))
	checkSaid(t, " # x\n\t\r\n# \xff", api.Schema{})
	checkSaid(t, "meta { } # x", api.Schema{})
}

// TestOnce: a second meta or control can't stand there, be the first one empty.
func TestOnce(t *testing.T) {
	checkFault(t, "meta { } meta { a: 1; }", api.ErrSyntax, pos(1, 10))
	checkFault(t, "meta { a: 1; }\nmeta", api.ErrSyntax, pos(2, 1))
	checkFault(t, "meta { a: 1; } header x { a: 8; } control { } meta { b: 1; }", api.ErrSyntax, pos(1, 47))
	checkFault(t, "control { } meta { } control { exit; }", api.ErrSyntax, pos(1, 22))
	checkFault(t, "control { exit; } control", api.ErrSyntax, pos(1, 19))
	checkSaid(t, "control { exit; } meta { a: 1; }", api.Schema{Meta: []api.Field{{Name: "a", Width: 1}}, Control: []api.Stage{{Kind: api.StageExit}}})
}

// TestWrongWords: of each rule something that does not stand there.
func TestWrongWords(t *testing.T) {
	for _, s := range []string{
		"x", "{", "5", "exit", "; header x { }", "header x { } ;", "header x { } }", "accept",
		"header {", "header 5", "header header", "header meta", "header x (", "header x { 5", "header x { a;", "header x { a: b", "header x { a: ;", "header x { a: 1,", "header x { a: 1 }", "header x { meta: 1; }",
		"meta x", "meta { ; }", "meta { a: 1; 2",
		"state {", "state s take", "state s { }", "state s { on", "state s { else", "state s { take ;", "state s { take a.b", "state s { take meta", "state s { take a else", "state s { take a; }", "state s { take a; take", "state s { take a; on b {", "state s { take a; on .b", "state s { take a; on 1", "state s { take a; on b.meta", "state s { take a; on b.c 1", "state s { take a; on b.c { a", "state s { take a; on b.c { 1 2", "state s { take a; on b.c { 1 & a", "state s { take a; on b.c { 1 & :", "state s { take a; on b.c { 1 & 2 & 3", "state s { take a; on b.c { 1: drop", "state s { take a; on b.c { 1: 2", "state s { take a; on b.c { 1: x }", "state s { take a; on b.c { else", "state s { take a; on b.c { } on", "state s { take a; on b.c { } }", "state s { take a; else ;", "state s { take a; else 1", "state s { take a; else exit", "state s { take a; else x }", "state s { take a; else x; else", "state s { take a; else x; on",
		"action (", "action f {", "action f(,", "action f(a)", "action f(a: 1; b: 2)", "action f(a: 1 b", "action f(a: 1,,", "action f(meta: 1)", "action f() (", "action f() { ;", "action f() { 1 = 2", "action f() { a = 2", "action f() { a.b == 2", "action f() { a.b = ;", "action f() { a.b = +", "action f() { a.b = meta;", "action f() { a.b = c.1", "action f() { a.b = 1 < 2", "action f() { a.b = 1 2", "action f() { a.b = 1 + ;", "action f() { a.b = 1 = 2", "action f() { a.b.c", "action f() { a.b = c.d.e", "action f() { a.b = meta.d.e", "action f() { drop }", "action f() { drop drop", "action f() { drop a", "action f() { add ;", "action f() { add meta", "action f() { add a.b", "action f() { remove 1", "action f() { remove a.b", "action f() { sum a;", "action f() { sum ;", "action f() { sum 1", "action f() { again a", "action f() { exit", "action f() { apply",
		"table {", "table t (", "table t { }", "table t { key a exact", "table t { key a.b;", "table t { key a.b valid", "table t { key 1", "table t { key a.b exact prefix", "table t { key a.b exact, key", "table t { can ;", "table t { can f,;", "table t { can f g", "table t { can meta", "table t { can f; key", "table t { can f; can", "table t { can f; default", "table t { can f; size f", "table t { can f; size 1 default", "table t { can f; size 1; size", "table t { can f; size 1; default 1", "table t { can f; size 1; default f;", "table t { can f; size 1; default f(a)", "table t { can f; size 1; default f(,", "table t { can f; size 1; default f(1,)", "table t { can f; size 1; default f(1 2", "table t { can f; size 1; default f(1;", "table t { can f; size 1; default f() }", "table t { can f; size 1; default f() fixed fixed", "table t { can f; size 1; default f(); fixed", "table t { size", "table t { default", "table t { fixed",
		"control x", "control ;", "control { ;", "control { x", "control { drop", "control { else", "control { apply ;", "control { apply 1", "control { apply t }", "control { apply t else", "control { apply t { } ;", "control { apply t; else", "control { apply t { } else ;", "control { apply t { } else { } else", "control { if {", "control { if valid {", "control { if valid a.b", "control { if valid meta", "control { if a {", "control { if a.b = 1", "control { if a.b + 1", "control { if a.b == {", "control { if a.b == 1 ;", "control { if a.b == 1 == 2", "control { if meta ==", "control { if (", "control { if a.b == 1 { } ;", "control { if a.b == 1 { } else if", "control { if a.b == 1 { } else { } else", "control { exit }", "control { exit exit", "control { { }", "control { apply t { ; }",
	} {
		if f := checkAll(t, s); f.Code != api.ErrSyntax {
			t.Errorf("%q: %v", s, f)
		}
	}
}

// TestLong: above MaxText all else is not looked at.
func TestLong(t *testing.T) {
	fill := func(s string, size int) string { return s + strings.Repeat(" ", size-len(s)) }
	checkFault(t, fill("!", api.MaxText+1), api.ErrLong, api.Pos{})
	checkFault(t, fill("x", api.MaxText+1), api.ErrLong, api.Pos{})
	checkFault(t, fill(textT, api.MaxText+1), api.ErrLong, api.Pos{})
	checkFault(t, fill("", api.MaxText+1), api.ErrLong, api.Pos{})
	checkFault(t, fill("header", 1<<22), api.ErrLong, api.Pos{})
	checkSaid(t, fill(textT, api.MaxText), schemaT())
	checkFault(t, fill("!", api.MaxText), api.ErrWord, pos(1, 1))
	checkFault(t, fill("header", api.MaxText), api.ErrEnd, pos(1, api.MaxText+1))
	checkFault(t, strings.Repeat("\n", api.MaxText-6)+"header", api.ErrEnd, pos(api.MaxText-5, 7))
}
