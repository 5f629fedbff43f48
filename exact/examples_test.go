package exact_test

import (
	"testing"

	"turnout/api"
	"turnout/exact"
)

// TestExamples: those of the chapter, in their order.
func TestExamples(t *testing.T) {
	for _, most := range []int{0, 4097} {
		if m, e := exact.New[int](most); m != nil || e != api.ErrArg {
			t.Errorf("New(%d): %v %d", most, m, e)
		}
	}
	if m, e := exact.New[int](4096); m == nil || e != api.OK {
		t.Errorf("New(4096): %v %d", m, e)
	}

	m := fresh[int](t, 2)
	checkPut(t, m, "b", 1, api.OK)
	checkPut(t, m, "", 2, api.OK)
	checkPut(t, m, "b", 3, api.ErrDup)
	checkPut(t, m, "c", 4, api.ErrFull)

	checkSet(t, m, "b", 5, api.OK)
	checkSet(t, m, "c", 5, api.ErrAbsent)
	checkGet(t, m, "b", 5, true)
	checkGet(t, m, "c", 0, false)
	checkLen(t, m, 2)

	checkAll(t, m, held{"", 2}, held{"b", 5})

	checkDrop(t, m, "", 2, true)
	checkDrop(t, m, "", 0, false)
	checkPut(t, m, "c", 6, api.OK)
	checkAll(t, m, held{"b", 5}, held{"c", 6})

	c := m.Copy()
	m.Clear()
	checkLen(t, m, 0)
	checkLen(t, c, 2)
	checkAll(t, m)
	checkAll(t, c, held{"b", 5}, held{"c", 6})
}
