package tables_test

import (
	"iter"
	"slices"
	"testing"

	"turnout/api"
	"turnout/tables"
)

// R5, of Entries, in tables of each kind.

func TestIteratorIsNeverNil(t *testing.T) {
	var none *tables.Set
	for what, all := range map[string]iter.Seq[api.Entry]{"no table": filled(t).Entries("v"), "nil": none.Entries("x"), "empty": fresh(t, many()).Entries("x"), "some": filled(t).Entries("r")} {
		if all == nil {
			t.Errorf("%s: no iterator", what)
		}
	}
}

func TestLeftEarly(t *testing.T) {
	x := filled(t)
	for table, list := range fives() {
		all := x.Entries(table)
		for n := 1; n <= 5; n++ {
			var got []api.Entry
			for e := range all {
				got = append(got, e)
				if len(got) == n {
					break
				}
			}
			checkEntries(t, "left early", got, list[:n])
		}
		checkEntries(t, "behind that", collected(t, all), list)
	}
}

// TestTellsNoMore: once it is left, nothing is told.
func TestTellsNoMore(t *testing.T) {
	x := filled(t)
	for table := range fives() {
		for n := 1; n <= 6; n++ {
			told := 0
			x.Entries(table)(func(api.Entry) bool {
				told++
				return told < n
			})
			if told != min(n, 5) {
				t.Errorf("%s, left at %d: %d were told", table, n, told)
			}
		}
	}
}

// changes are batches that may be done to a table of many that holds its five entries; some are refused.
func changes(table string) map[string][]api.Op {
	list, o := fives()[table], others()[table]
	var other []api.Entry
	var all, calls []api.Op
	for _, e := range list {
		all = append(all, remove(table, e))
		e.Call = call("g", 500)
		other = append(other, e)
		calls = append(calls, modify(table, e))
	}
	return map[string][]api.Op{
		"ahead":           {insert(table, o[0])},
		"between":         {insert(table, o[1])},
		"behind":          {insert(table, o[2])},
		"the first out":   {remove(table, list[0])},
		"one between out": {remove(table, list[2])},
		"the last out":    {remove(table, list[4])},
		"all out":         all,
		"all out, one in": append(slices.Clone(all), insert(table, o[1])),
		"out and in":      {remove(table, list[1]), remove(table, list[3]), insert(table, other[3]), insert(table, other[1])},
		"others":          {remove(table, list[0]), remove(table, list[4]), insert(table, o[0]), insert(table, o[1]), insert(table, o[2])},
		"calls":           calls,
		"clear":           {clearOf(table)},
		"clear and in":    {clearOf(table), insert(table, o[1]), insert(table, other[0]), insert(table, other[4])},
		"default":         {setDefault(table, call("g", 5))},
		"refused":         {remove(table, list[0]), modify(table, other[3]), insert(table, o[0]), insert(table, list[1])},
		"clear, refused":  {clearOf(table), insert(table, other[0]), clearOf(table), remove(table, list[0])},
	}
}

// TestAsItBegan: a range tells what there was when it began, whatever is done meanwhile, at whatever place; the next one tells what there is then.
func TestAsItBegan(t *testing.T) {
	for table, list := range fives() {
		for what, ops := range changes(table) {
			for at := range 5 {
				x, same := filled(t), filled(t)
				all := x.Entries(table)
				var got []api.Entry
				for e := range all {
					if len(got) == at {
						x.Do(ops...)
					}
					got = append(got, e)
				}
				checkEntries(t, what, got, list)
				same.Do(ops...)
				checkEntries(t, what+", again", collected(t, all), collected(t, same.Entries(table)))
			}
		}
	}
}

// TestFromTheRange: what is done between the call and the range is told.
func TestFromTheRange(t *testing.T) {
	for table := range fives() {
		for what, ops := range changes(table) {
			x, same := filled(t), filled(t)
			all := x.Entries(table)
			x.Do(ops...)
			same.Do(ops...)
			h, _ := same.Held(table)
			checkEntries(t, what, collected(t, all), h.Entries)
		}
	}
}

// TestWithinItself: ranges within one another, over one iterator; what was changed between them is told by the inner one alone.
func TestWithinItself(t *testing.T) {
	for table, list := range fives() {
		x := filled(t)
		all := x.Entries(table)
		many := 0
		for e := range all {
			if !alike(e, list[many]) {
				t.Errorf("%s: %d is %v", table, many, e)
			}
			many++
			done(t, x, remove(table, e))
			checkEntries(t, "the inner one", collected(t, all), list[many:])
		}
		if many != 5 {
			t.Errorf("%s: %d were told", table, many)
		}
	}
}

// TestByTurns: two ranges over one iterator go on by turns, each with what there was when it began.
func TestByTurns(t *testing.T) {
	for table, list := range fives() {
		x := filled(t)
		all := x.Entries(table)
		one, stopOne := iter.Pull(all)
		two, stopTwo := iter.Pull(all)
		next := func(pull func() (api.Entry, bool), want ...api.Entry) {
			t.Helper()
			got, there := pull()
			if there != (len(want) > 0) || there && !alike(got, want[0]) {
				t.Errorf("%s: next is %v %v, not %v", table, got, there, want)
			}
		}
		last := copied(list[4])
		last.Call = call("g", 50)
		next(one, list[0])
		done(t, x, remove(table, list[1]), modify(table, last))
		next(two, list[0])
		next(one, list[1])
		done(t, x, clearOf(table))
		next(two, list[2])
		next(one, list[2])
		next(two, list[3])
		next(two, last)
		next(one, list[3])
		next(one, list[4])
		next(one)
		next(two)
		stopOne()
		stopTwo()
	}
}

// TestThrownOutOf: a range that ends by a panic leaves the set and the iterator as they were.
func TestThrownOutOf(t *testing.T) {
	for table, list := range fives() {
		x := filled(t)
		all := x.Entries(table)
		func() {
			defer func() {
				if r := recover(); r != "out" {
					t.Errorf("recovered %v", r)
				}
			}()
			for range all {
				panic("out")
			}
		}()
		checkEntries(t, "behind it", collected(t, all), list)
		checkTable(t, x, table, call("g", 99), list...)
	}
}

// TestOtherTables: what is done to other tables meanwhile is not told.
func TestOtherTables(t *testing.T) {
	x := filled(t)
	var got []api.Entry
	for e := range x.Entries("p") {
		got = append(got, e)
		done(t, x, clearOf("x"), clearOf("q"), clearOf("r"))
	}
	checkEntries(t, "p", got, fives()["p"])
	checkEntries(t, "x", collected(t, x.Entries("x")), nil)
}
