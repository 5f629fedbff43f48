package tables_test

import (
	"slices"
	"testing"

	"turnout/api"
	"turnout/tables"
)

// TestExamples: the chapter's four examples, one behind the other.
func TestExamples(t *testing.T) {
	x := fresh(t, small())
	g := call("g")
	one := inT(1, 0x1200, 8, call("f", 0x100))
	checkDo(t, x, 0, api.OK, insert("t", one))
	checkLookup(t, x, "t", ns(1, 0x12ff), call("f", 0x100), one)
	checkLookup(t, x, "t", ns(2, 0), g)
	checkRefused(t, x, "t", ns(1), api.ErrKey)
	checkRefused(t, x, "v", nil, api.ErrTable)

	a, b := inT(1, 0, 0, g), inT(2, 0, 0, g)
	checkDo(t, x, 1, api.ErrFull, insert("t", a), insert("t", b))
	if x.Len("t") != 1 {
		t.Errorf("Len is %d", x.Len("t"))
	}
	checkDo(t, x, 0, api.OK, remove("t", one), insert("t", a), insert("t", b))
	checkTable(t, x, "t", g, a, b)

	checkDo(t, x, 0, api.ErrBatch)
	checkDo(t, x, 0, api.ErrFixed, setDefault("u", g))
	checkDo(t, x, 0, api.ErrAbsent, modify("t", inT(9, 0, 0, g)))
	checkDo(t, x, 1, api.ErrKey, clearOf("t"), insert("t", inT(1, 0x1234, 8, g)))

	held := x.All()
	if y, e := tables.Load(small(), held); e != api.OK || !y.Same(x) {
		t.Errorf("Load: %d", e)
	}
	slices.Reverse(held[0].Entries)
	if y, e := tables.Load(small(), held); y != nil || e != api.ErrEntry {
		t.Errorf("Load the other way round: %v %d", y, e)
	}
}
