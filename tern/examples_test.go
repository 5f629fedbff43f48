package tern_test

import (
	"testing"

	"turnout/api"
	"turnout/tern"
)

// TestExamples: the chapter's three examples, one behind the other.
func TestExamples(t *testing.T) {
	l := fresh(t, small(), "u", 3)
	x, y, z := inU(2, 3, 5, 9, 7), inU(2, 3, 5, 9, 8), inU(0, 0, 0, 0xffff, 1)

	checkPut(t, l, x, api.OK)
	checkPut(t, l, x, api.ErrDup)
	checkPut(t, l, y, api.OK)
	checkAll(t, l, y, x)
	checkFind(t, l, ns(6, 9), y)
	checkFind(t, l, ns(7, 9))
	checkHidden(t, l, x)
	checkGroups(t, l, 1)

	checkPut(t, l, z, api.OK)
	checkEvery(t, l, ns(2, 5), y, x, z)
	checkGroups(t, l, 2)
	checkPut(t, l, inU(1, 1, 1, 1, 1), api.ErrFull)
	checkPut(t, l, x, api.ErrDup)
	checkDrop(t, l, x, x)
	checkDrop(t, l, x)
	checkHidden(t, l)

	checkSet(t, l, x, api.ErrAbsent)
	for _, most := range []int{0, 4097} {
		if l, e := tern.New(small(), "u", most); l != nil || e != api.ErrArg {
			t.Errorf("New(.., %d): %v %d", most, l, e)
		}
	}
	checkFind(t, l, ns(2))
}

// TestAnotherCall: of example 1: Put of one that is there, with another call, is refused; in table t, which has calls that are unlike.
func TestAnotherCall(t *testing.T) {
	l := fresh(t, small(), "t", 3)
	x := entry(0, call("f", 0x100), exactly(1), begins(0x1200, 8))
	y := entry(0, call("g"), exactly(1), begins(0x1200, 8))
	checkPut(t, l, x, api.OK)
	checkPut(t, l, y, api.ErrDup)
	checkAll(t, l, x)
	checkSet(t, l, y, api.OK)
	checkAll(t, l, y)
}
