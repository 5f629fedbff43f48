package schema_test

import (
	"maps"
	"math/rand"
	"slices"
	"strings"
	"testing"

	"turnout/api"
	"turnout/schema"
)

// P7.5

// A pass is how many tables a pass met so far, and whether it has ended.
type pass struct {
	met   int
	ended bool
}

// passes are all passes through a list, each by itself.
func passes(list []api.Stage) map[pass]bool {
	all := map[pass]bool{{}: true}
	for _, x := range list {
		within := map[pass]bool{}
		met := 0
		switch x.Kind {
		case api.StageApply:
			met = 1
			fallthrough
		case api.StageIf:
			maps.Copy(within, passes(x.Then))
			maps.Copy(within, passes(x.Else))
		case api.StageExit:
			within[pass{ended: true}] = true
		default:
			within[pass{}] = true
		}
		next := map[pass]bool{}
		for p := range all {
			if p.ended {
				next[p] = true
				continue
			}
			for q := range within {
				next[pass{p.met + met + q.met, q.ended}] = true
			}
		}
		all = next
	}
	return all
}

// checkPasses holds Applied and Meets against all passes.
func checkPasses(t *testing.T, what string, s api.Schema) {
	t.Helper()
	var applied []string
	meets := 0
	if many, deep := tooGreat(s.Control); !many && !deep {
		for _, x := range inOrder(s.Control, 1) {
			if x.Kind == api.StageApply && !slices.Contains(applied, x.Table) {
				applied = append(applied, x.Table)
			}
		}
		for p := range passes(s.Control) {
			meets = max(meets, p.met)
		}
	}
	if got := schema.Applied(s); !slices.Equal(got, applied) {
		t.Fatalf("%s: Applied %q; want %q: %s", what, got, applied, short(s))
	}
	if got := schema.Meets(s); got != meets {
		t.Fatalf("%s: Meets %d; want %d: %s", what, got, meets, short(s))
	}
}

func TestPasses(t *testing.T) {
	a, b, c, d := apply("a"), apply("b"), apply("c"), apply("d")
	in := func(kind int, then, other []api.Stage) api.Stage {
		return api.Stage{Kind: kind, Then: then, Else: other}
	}
	list := func(l ...api.Stage) []api.Stage { return l }
	for _, x := range []struct {
		what    string
		control []api.Stage
		meets   int
		applied string
	}{
		{"nothing", nil, 0, ""},
		{"an exit", list(exit()), 0, ""},
		{"three in a row", list(a, b, c), 3, "a b c"},
		{"behind an exit", list(a, exit(), b, c), 1, "a b c"},
		{"an exit first", list(exit(), a), 0, "a"},
		{"the chapter's", list(apply("a", b, exit()), c), 2, "a b c"},
		{"an exit in a longer Then", list(apply("a", b, c, d, exit()), c), 4, "a b c d"},
		{"exits on both sides", list(or(apply("a", b, exit()), exit()), c, d), 2, "a b c d"},
		{"Then is longer", list(or(valid("h", a, b), c)), 2, "a b c"},
		{"Else is longer", list(or(valid("h", a), b, c)), 2, "a b c"},
		{"one side ends, the other one goes on", list(or(valid("h", a, b, exit()), c), d), 2, "a b c d"},
		{"one side ends, the other one goes on further", list(or(valid("h", a, exit()), c), d, b), 3, "a c d b"},
		{"an exit deep inside", list(valid("h", valid("h", valid("h", a, b, exit()))), c), 2, "a b c"},
		{"a table again", list(a, a, or(valid("h", a), a)), 3, "a"},
		{"a table that has no name", list(apply(""), apply("")), 2, " "},
		{"a stage of no kind", list(a, in(0, list(b, c), list(d)), d), 2, "a b c d"},
		{"a stage of no kind that has a table", list(api.Stage{Kind: 4, Table: "a"}, b), 1, "b"},
		{"an if that has a table", list(api.Stage{Kind: api.StageIf, Table: "a", Then: list(b)}), 1, "b"},
		{"an exit that has a table, and stages", list(api.Stage{Kind: api.StageExit, Table: "a", Then: list(b), Else: list(c)}), 0, "b c"},
		{"an if of no test", list(in(api.StageIf, list(a), list(b))), 1, "a b"},
		{"Applied, from above", list(or(apply("c", apply("b"), apply("a")), apply("a"), apply("d")), apply("b"), apply("e")), 5, "c b a d e"},
	} {
		s := api.Schema{Control: x.control}
		checkPasses(t, x.what, s)
		if got := schema.Meets(s); got != x.meets {
			t.Errorf("%s: Meets %d; want %d", x.what, got, x.meets)
		}
		want := strings.Fields(x.applied)
		if x.applied == " " {
			want = []string{""}
		}
		if got := schema.Applied(s); !slices.Equal(got, want) {
			t.Errorf("%s: Applied %q; want %q", x.what, got, want)
		}
	}
}

func TestPassesOfGreatControls(t *testing.T) {
	applies := make([]api.Stage, 200)
	for i, name := range names("t", 200) {
		applies[i] = apply(name)
	}
	for _, x := range []struct {
		what    string
		control []api.Stage
		meets   int
		applied int
	}{
		{"128 stages", applies[:128], 128, 128},
		{"129 stages", applies[:129], 0, 0},
		{"128 stages in all", []api.Stage{or(apply("x", applies[:64]...), applies[64:127]...)}, 65, 128},
		{"129 stages in all", []api.Stage{or(apply("x", applies[:64]...), applies[64:128]...)}, 0, 0},
		{"129 stages in one of no kind", []api.Stage{{Else: applies[:128]}}, 0, 0},
		{"128 stages in one of no kind", []api.Stage{{Else: applies[:127]}}, 0, 127},
		{"8 deep", []api.Stage{nested(8, apply("a"), func(s api.Stage) api.Stage { return apply("b", s) })}, 8, 2},
		{"9 deep", []api.Stage{nested(9, apply("a"), func(s api.Stage) api.Stage { return apply("b", s) })}, 0, 0},
		{"9 deep, in Else, behind others", []api.Stage{apply("c"), nested(9, exit(), inElse)}, 0, 0},
		{"9 deep, in stages of no kind", []api.Stage{apply("c"), nested(9, exit(), func(s api.Stage) api.Stage { return api.Stage{Then: []api.Stage{s}} })}, 0, 0},
		{"1000 deep", []api.Stage{nested(1000, apply("a"), inThen)}, 0, 0},
	} {
		s := api.Schema{Control: x.control}
		checkPasses(t, x.what, s)
		if got := schema.Meets(s); got != x.meets {
			t.Errorf("%s: Meets %d; want %d", x.what, got, x.meets)
		}
		if got := schema.Applied(s); len(got) != x.applied {
			t.Errorf("%s: Applied %d; want %d", x.what, len(got), x.applied)
		}
	}
}

// drawStages are stages of all kinds and of none.
func drawStages(r *rand.Rand, left *int, depth int) []api.Stage {
	var list []api.Stage
	for range r.Intn(4) {
		if *left--; *left < 0 {
			break
		}
		x := api.Stage{Kind: r.Intn(5), Table: []string{"a", "b", "c", "d", "e", "f", ""}[r.Intn(7)]}
		if r.Intn(2) == 0 {
			x.Kind = api.StageApply
		}
		if depth < 9 && r.Intn(3) > 0 {
			x.Then = drawStages(r, left, depth+1)
		}
		if depth < 9 && r.Intn(3) > 0 {
			x.Else = drawStages(r, left, depth+1)
		}
		list = append(list, x)
	}
	return list
}

func TestDrawnPasses(t *testing.T) {
	r := rand.New(rand.NewSource(4))
	met := map[int]int{}
	for range 20000 {
		left := 20
		s := api.Schema{Control: drawStages(r, &left, 1)}
		checkPasses(t, "drawn", s)
		met[schema.Meets(s)]++
	}
	if len(met) < 9 {
		t.Errorf("%d numbers were met", len(met))
	}
}
