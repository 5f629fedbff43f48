package pipe_test

import (
	"fmt"
	"math/rand"
	"runtime"
	"strings"
	"sync"
	"sync/atomic"
	"testing"
	"time"

	"turnout/api"
	"turnout/pipe"
)

// P16.4

// TestMany: for each packet, in their order, what Run answers; also where packets are alike, wrong, or none.
func TestMany(t *testing.T) {
	s := schemaOf(t, small)
	p, from := ready(t, s), set(t, s, entries())
	r := rand.New(rand.NewSource(1))
	for _, count := range []int{0, 1, 2, 3, 7, 8, 9, 100, 2000} {
		packets := make([]string, count)
		for i := range packets {
			b := make([]byte, r.Intn(4))
			r.Read(b)
			if len(b) > 0 && r.Intn(2) == 0 {
				b[0] = byte(r.Intn(5))
			}
			packets[i] = string(b)
		}
		list := p.Many(from, ns(300), packets...)
		if len(list) != count {
			t.Fatalf("%d results of %d packets", len(list), count)
		}
		for i, packet := range packets {
			checkResult(t, fmt.Sprint(i, " of ", count), list[i], p.Run(from, ns(300), packet))
		}
	}
	for i, r := range p.Many(nil, nil, "\x01\x02", "", strings.Repeat("x", 3000)) {
		checkResult(t, fmt.Sprint("no source, ", i), r, api.Result{Error: api.ErrArg})
	}
}

// TestSideBySide: all packets are under way at a time: here none is answered before all have asked.
func TestSideBySide(t *testing.T) {
	p := ready(t, schemaOf(t, small))
	for _, count := range []int{2, 100, 1000} {
		var come sync.WaitGroup
		come.Add(count)
		from := source(func(table string, key []api.Bits) (api.Hit, api.Errno) {
			come.Done()
			come.Wait()
			return found(table, call("out", key[0].Lo)), api.OK
		})
		var packets []string
		for i := range count {
			packets = append(packets, string([]byte{byte(i), 0}))
		}
		done := make(chan []api.Result)
		go func() { done <- p.Many(from, nil, packets...) }()
		select {
		case list := <-done:
			for i, r := range list {
				want := api.Result{Out: packets[i], Meta: ns(uint64(byte(i))), Rounds: 1, Trace: []api.Hit{found("t", call("out", uint64(byte(i))))}}
				checkResult(t, packets[i], r, want)
			}
		case <-time.After(20 * time.Second):
			t.Fatalf("%d packets: some of them wait for others", count)
		}
	}
}

// TestOneBehindTheOther: of one packet the questions come one behind the other, in the control's order, while other packets go on.
func TestOneBehindTheOther(t *testing.T) {
	s := schemaOf(t, tableList("a", "b", "c")+"control { apply a; apply b; apply c; }")
	p := ready(t, s)
	var asks [100]atomic.Int32
	var asked [100]int
	names := []string{"a", "b", "c"}
	from := source(func(table string, key []api.Bits) (api.Hit, api.Errno) {
		i := key[0].Lo
		if asks[i].Add(1) != 1 {
			t.Errorf("two questions of the packet %d at a time", i)
		}
		if names[asked[i]%3] != table {
			t.Errorf("the packet %d asks %s as its question %d", i, table, asked[i])
		}
		asked[i]++
		runtime.Gosched()
		asks[i].Add(-1)
		return missed(table, call("round")), api.OK
	})
	var packets []string
	for i := range asked {
		packets = append(packets, string([]byte{byte(i)}))
	}
	for i, r := range p.Many(from, nil, packets...) {
		if r.Out != packets[i] || r.Rounds != 4 || len(r.Trace) != 12 || asked[i] != 12 {
			t.Errorf("%d: %s, asked %d", i, short(r), asked[i])
		}
	}
}

// TestNoneIsLeft: all goroutines that Many starts have ended when it answers: nothing is asked then.
func TestNoneIsLeft(t *testing.T) {
	s := schemaOf(t, small)
	p := ready(t, s)
	var asking atomic.Int32
	from := source(func(table string, key []api.Bits) (api.Hit, api.Errno) {
		asking.Add(1)
		defer asking.Add(-1)
		for range key[0].Lo {
			runtime.Gosched()
		}
		return missed(table, call("round")), api.OK
	})
	before := runtime.NumGoroutine()
	for range 50 {
		p.Many(from, nil, "\x00\x00", "\xff\x00", "\x80\x00", "\x10\x00", "x")
		if left := asking.Load(); left != 0 {
			t.Fatalf("%d still ask", left)
		}
	}
	// One that has told that it is done may need a moment to end.
	for range 1000 {
		if runtime.NumGoroutine() <= before {
			return
		}
		time.Sleep(time.Millisecond)
	}
	t.Errorf("%d goroutines, not %d", runtime.NumGoroutine(), before)
}

// P16.6, R7

// TestCallsSideBySide: Act, Run and Many of one pipe, by many goroutines at a time.
func TestCallsSideBySide(t *testing.T) {
	s := schemaOf(t, small)
	p, from := ready(t, s), set(t, s, entries())
	packets := []string{"\x01\x02\x03", "\x02\x00", "\x03\x00", "\xff\x00", "\x07\x00", "\x07"}
	var want []api.Result
	for _, packet := range packets {
		want = append(want, p.Run(from, ns(5), packet))
	}
	k := api.Packet{Heads: []api.Filled{head("eth", 1, 2)}, Meta: ns(3), Rest: "x"}
	in := ns(5)
	var group sync.WaitGroup
	for range 8 {
		group.Go(func() {
			for range 50 {
				checkAct(t, p, call("round"), k, api.Packet{Heads: []api.Filled{head("eth", 2, 2)}, Meta: ns(3), Rest: "x"}, false, true)
				for i, packet := range packets {
					checkResult(t, packet, p.Run(from, in, packet), want[i])
				}
				for i, r := range p.Many(from, in, packets...) {
					checkResult(t, packets[i], r, want[i])
				}
			}
		})
	}
	group.Wait()
}

// A caller is a source that sends packets through the pipe that asks it.
type caller struct {
	pipe *pipe.Pipe
	pipe.Source
}

func (c *caller) Lookup(table string, key ...api.Bits) (api.Hit, api.Errno) {
	c.pipe.Many(c.Source, ns(9), "\x03\x00", "\x02\x00")
	c.pipe.Run(c.Source, ns(9), "\x04\x00")
	c.pipe.Act(call("out", 8), api.Packet{Meta: ns(1)})
	return c.Source.Lookup(table, key...)
}

// TestCalledByASource: a source may call the pipe that asks it.
func TestCalledByASource(t *testing.T) {
	s := schemaOf(t, small)
	p, from := ready(t, s), set(t, s, entries())
	for _, packet := range []string{"\x01\x02\x03", "\x02\x00", "\x03\x00", "\xff\x00", "\x07\x00"} {
		checkRun(t, p, &caller{p, from}, ns(5), packet, p.Run(from, ns(5), packet))
	}
}
