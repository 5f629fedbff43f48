package syntax_test

import (
	"strings"
	"testing"

	"turnout/api"
	"turnout/schema"
	"turnout/syntax"
)

// P8.2

func TestPlaces(t *testing.T) {
	const text = `# control { }
 header b { a: 1; } header a { b: 8; } header a { a: 1; }
	state a { take a; else accept; }  control { } state b { take a; else b; } state a { take a; else a; }
table b { can a; size 1; default a(); }
	table a { can a; size 1; default a(); } action b() { }
action a() { } action a() { drop; } meta { }`
	for thing, want := range map[string]api.Pos{
		"header": pos(2, 2), "header b": pos(2, 2), "header a": pos(2, 21),
		"state": pos(3, 2), "state a": pos(3, 2), "state b": pos(3, 48),
		"control": pos(3, 36), "meta": pos(6, 37),
		"table": pos(4, 1), "table b": pos(4, 1), "table a": pos(5, 2),
		"action": pos(5, 42), "action b": pos(5, 42), "action a": pos(6, 1),
	} {
		checkPlace(t, text, thing, want)
	}
	for _, thing := range []string{
		"", " ", "a", "b", "header c", "header ", " header", "header  a", "header a ", "header a b", "header\ta", "header\na", "headera", "Header a", "header A",
		"meta ", "meta a", "meta meta", "control ", "control a", "control control", "state accept", "action drop", "table table", "header meta",
		"on", "take", "key", "size", "exit", "{", "}", "header {", "accept", "# control", "headers", "head", "header a\x00", strings.Repeat("header ", 1000),
	} {
		checkPlace(t, text, thing, api.Pos{})
	}
	for _, kind := range kinds {
		checkPlace(t, "", kind, api.Pos{})
	}
}

// TestPlaceOfOthers: a word of a kind within another thing begins none.
func TestPlaceOfOthers(t *testing.T) {
	const text = "action f() { meta.a = 1; } control { if meta.a == 1 { } } state s { take x; on meta.a { } else accept; } table t { key meta.a exact; can f; size 1; default f(); }"
	checkPlace(t, text, "meta", api.Pos{})
	checkPlace(t, text+"\nmeta { }", "meta", pos(2, 1))
}

// TestPlaceWithFault: a text with a fault has no places, be the thing ahead of the fault.
func TestPlaceWithFault(t *testing.T) {
	for _, bad := range []string{"header", "x", "!", "007", "meta { a: 2147483648; }", "header a { a: 1; } }"} {
		for _, thing := range []string{"header", "header a", "meta", "action"} {
			checkPlace(t, "header a { } "+bad, thing, api.Pos{})
		}
	}
	checkPlace(t, "header a { }"+strings.Repeat(" ", api.MaxText-12), "header a", pos(1, 1))
	checkPlace(t, "header a { }"+strings.Repeat(" ", api.MaxText-11), "header a", api.Pos{})
	checkPlace(t, "header a { } header a { }", "header a", pos(1, 1))
}

// P8.3

func TestSound(t *testing.T) {
	for _, text := range []string{"", textT, textAll} {
		s, f := syntax.Sound(text)
		if want := read(t, text); f != (api.Fault{}) || !schema.Same(s, want) {
			t.Errorf("%s: %v, %s", short(text), f, short(s))
		}
	}
	const eth = "header eth { dst: 48; type: 16; }\n"
	const f = " action f(p: 16) { }"
	const tab = " table t { key eth.type exact; can f; size 1; default f(1); }"
	for _, x := range []struct {
		text string
		code api.Errno
		at   api.Pos
	}{
		{"header x { }", api.ErrMany, pos(1, 1)},
		{eth + " header eth { a: 8; }", api.ErrTwice, pos(1, 1)},
		{eth + " header x { a: 8; a: 8; }", api.ErrTwice, pos(2, 2)},
		{eth + " header x { a: 9; }", api.ErrBits, pos(2, 2)},
		{"meta { }\n" + strings.Repeat(" header x { a: 8; }\n", 33), api.ErrMany, pos(2, 2)},
		{eth + "  meta { a: 129; }", api.ErrBits, pos(2, 3)},
		{"meta {" + strings.Repeat(" a: 1;", 33) + " }", api.ErrMany, pos(1, 1)},
		{eth + "state s { take ip; else accept; }", api.ErrUnknown, pos(2, 1)},
		{eth + "state s { take eth; else t; } state t { take eth; on eth.type { 65536: accept; } else accept; }", api.ErrBits, pos(2, 31)},
		{eth + "state s { take eth; else t; } state t { take eth; else t; }", api.ErrLoop, pos(2, 31)},
		{eth + "\n" + strings.Repeat("state s { take eth; else accept; }\n", 33), api.ErrMany, pos(3, 1)},
		{eth + f + " action g() { eth.type = p; }", api.ErrUnknown, pos(2, 22)},
		{f + strings.Repeat(f, 64), api.ErrMany, pos(1, 2)},
		{eth + f + f, api.ErrTwice, pos(2, 2)},
		{eth + f + " table t { can f; size 1; default f(1); }", api.ErrMany, pos(2, 22)},
		{eth + f + " table t { key eth.type exact; can f; size 1; default f(); }", api.ErrArgs, pos(2, 22)},
		{eth + f + " table t { key eth.type exact; can f; size 1; default g(); }", api.ErrAction, pos(2, 22)},
		{eth + f + " table t { key eth.type exact; can f; size 4097; default f(1); }", api.ErrMany, pos(2, 22)},
		{eth + f + tab + " table u { key eth.type prefix; key eth.dst ternary; can f; size 1; default f(1); }", api.ErrKind, pos(2, 22+len(tab))},
		{eth + f + strings.Repeat(tab, 33), api.ErrMany, pos(2, 22)},
		{eth + f + tab + "\n control { apply t; apply t; }", api.ErrTwice, pos(3, 2)},
		{"\n\n control { exit; if valid x { } }" + eth, api.ErrUnknown, pos(3, 2)},
		{"control {" + strings.Repeat(" exit;", 129) + " }", api.ErrMany, pos(1, 1)},
		{eth + "control {" + strings.Repeat(" if valid eth {", 8) + " exit;" + strings.Repeat(" }", 9), api.ErrDeep, pos(2, 1)},
		{eth + "control { if 1 == 1 { } }", api.ErrBits, pos(2, 1)},
		{eth + "control { if a == 1 { } }", api.ErrUnknown, pos(2, 1)},
	} {
		checkUnsound(t, x.text, x.code, x.at)
	}
	checkFault(t, "header x { } y", api.ErrSyntax, pos(1, 14))
	checkFault(t, "header x { } !", api.ErrWord, pos(1, 14))
}
