package match_test

import (
	"math"
	"math/rand"
	"slices"
	"testing"

	"turnout/api"
	"turnout/match"
)

// P11.2, P11.7

// inOrder are entries one behind the other.
func inOrder() []api.Entry {
	none := api.Call{}
	return []api.Entry{
		entry(math.MaxInt, none, exactly(9)),
		entry(api.MaxPriority, none, exactly(9)),
		entry(8, none, begins(9, 2), exactly(9)),
		entry(7, none),
		entry(7, none, api.Match{Value: most, Mask: most, Len: math.MaxInt}),
		entry(7, none, begins(9, 3)),
		entry(7, none, begins(1, 2)),
		entry(7, none, begins(2, 2)),
		entry(7, none, masked(0, 9)),
		entry(7, none, exactly(1)),
		entry(7, none, exactly(1), begins(5, 1)),
		entry(7, none, exactly(1), begins(5, 1), api.Match{}),
		entry(7, none, exactly(1), exactly(4)),
		entry(7, none, exactly(1), masked(4, 1)),
		entry(7, none, exactly(1), masked(4, 2)),
		entry(7, none, exactly(1), masked(5, 1)),
		entry(7, none, masked(1, 2)),
		entry(7, none, masked(1, 3), begins(0, 99)),
		entry(7, none, api.Match{Value: n(1), Mask: api.Bits{Hi: 1}}, exactly(4)),
		entry(7, none, exactly(2)),
		entry(7, none, exactly(math.MaxUint64)),
		entry(7, none, api.Match{Value: api.Bits{Hi: 1}}),
		entry(7, none, api.Match{Value: api.Bits{Hi: 1, Lo: 1}}),
		entry(7, none, api.Match{Value: most}),
		entry(7, none, begins(0, -1)),
		entry(7, none, begins(0, math.MinInt)),
		entry(6, none, begins(0, 128)),
		entry(0, none),
		entry(-1, none, begins(0, 128)),
		entry(math.MinInt, none, begins(0, 128)),
	}
}

// checkOrder holds the order of two entries, both ways, and whether they are the same one, against what it must be.
func checkOrder(t *testing.T, a, b api.Entry, want int) {
	t.Helper()
	if got, back := match.Order(a, b), match.Order(b, a); got != want || back != -want {
		t.Errorf("Order of %s and %s: %d, %d; want %d", short(a), short(b), got, back, want)
	}
	if got, back := match.Same(a, b), match.Same(b, a); got != (want == 0) || back != got {
		t.Errorf("Same of %s and %s: %v, %v", short(a), short(b), got, back)
	}
}

// TestInOrder: each stands ahead of all behind it.
func TestInOrder(t *testing.T) {
	list := inOrder()
	for i, a := range list {
		for k, b := range list {
			want := 0
			if i < k {
				want = -1
			} else if i > k {
				want = 1
			}
			checkOrder(t, a, b, want)
		}
	}
}

// TestCallsDontCount: nor do nil and empty lists differ.
func TestCallsDontCount(t *testing.T) {
	for _, a := range inOrder() {
		b := deepCopy(a)
		b.Call = call("f", 1, 2)
		checkOrder(t, a, b, 0)
	}
	checkOrder(t, api.Entry{}, api.Entry{Match: []api.Match{}}, 0)
	checkOrder(t, api.Entry{Match: []api.Match{}}, entry(0, api.Call{}, api.Match{}), -1)
}

// drawAny is any entry, of few values, so that many are alike.
func drawAny(r *rand.Rand) api.Entry {
	values := []api.Bits{{}, n(1), {Hi: 1}, most}
	e := api.Entry{Priority: []int{math.MinInt, 0, 0, 0, 1, math.MaxInt}[r.Intn(6)], Call: call("f", uint64(r.Intn(2)))}
	for range r.Intn(4) {
		e.Match = append(e.Match, api.Match{Value: values[r.Intn(4)], Mask: values[r.Intn(4)], Len: []int{0, 0, 1, -1, math.MinInt, math.MaxInt}[r.Intn(6)]})
		if r.Intn(2) == 0 {
			e.Match[len(e.Match)-1] = api.Match{Value: values[r.Intn(2)]}
		}
	}
	return e
}

// TestDrawnOrder: it is the model's, and it is an order.
func TestDrawnOrder(t *testing.T) {
	r := rand.New(rand.NewSource(1))
	met := map[int]int{}
	for range 100000 {
		a, b, c := drawAny(r), drawAny(r), drawAny(r)
		want := modelOrder(a, b)
		met[want]++
		checkOrder(t, a, b, want)
		if match.Order(a, b) < 0 && match.Order(b, c) < 0 && match.Order(a, c) >= 0 {
			t.Errorf("%s, %s, %s", short(a), short(b), short(c))
		}
		if t.Failed() {
			t.FailNow()
		}
	}
	if met[-1] < 1000 || met[0] < 1000 || met[1] < 1000 {
		t.Errorf("met: %v", met)
	}
}

// TestSorted: however a list lies, it comes to one order.
func TestSorted(t *testing.T) {
	r := rand.New(rand.NewSource(2))
	want := inOrder()
	for range 200 {
		list := inOrder()
		r.Shuffle(len(list), func(i, k int) { list[i], list[k] = list[k], list[i] })
		slices.SortFunc(list, match.Order)
		if !slices.EqualFunc(list, want, match.Same) {
			t.Fatalf("%s", short(list))
		}
	}
}
