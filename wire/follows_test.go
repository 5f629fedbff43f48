package wire_test

import (
	"fmt"
	"math/rand"
	"slices"
	"testing"

	"turnout/api"
	"turnout/sums"
	"turnout/wire"
)

// P10.5

// TestFromOfBytes: From of Bytes is the header, Bytes of From the bytes.
func TestFromOfBytes(t *testing.T) {
	r := rand.New(rand.NewSource(6))
	for range 3000 {
		s := drawSound(r)
		for _, f := range drawPacket(r, s).Heads {
			b, e := wire.Bytes(s, f)
			again, e2 := wire.From(s, f.Name, b)
			if e != api.OK || e2 != api.OK || !same(again, f) {
				t.Fatalf("%d, %d: %s of %s", e, e2, short(again), short(f))
			}
			b = drawBytes(r, len(b))
			f, e = wire.From(s, f.Name, b)
			back, e2 := wire.Bytes(s, f)
			if e != api.OK || e2 != api.OK || back != b {
				t.Fatalf("%d, %d: %x of %x", e, e2, back, b)
			}
		}
	}
}

// inOrder is a schema whose states take headers in the schema's order: each leads to later ones alone.
func inOrder(r *rand.Rand) api.Schema {
	d := &drawer{Rand: r}
	d.headers()
	d.s.Meta = fields(8, 16)
	ends := []string{"accept"}
	for i, h := range slices.Backward(d.s.Headers) {
		x := state(fmt.Sprint("s", i), h.Name, ends[r.Intn(len(ends))])
		if r.Intn(2) == 0 {
			x.On = ref(h.Name, h.Fields[0].Name)
			x.Cases = []api.Case{{Mask: d.value(h.Fields[0].Width), Next: ends[r.Intn(len(ends))]}}
		}
		ends = append(ends, x.Name)
		d.s.States = append(d.s.States, x)
	}
	slices.Reverse(d.s.States)
	return d.s
}

// TestBuildOfParse: Build of what Parse tells is the packet, if the states take the headers in the schema's order; what Parse tells is right in any order.
func TestBuildOfParse(t *testing.T) {
	r := rand.New(rand.NewSource(7))
	met := 0
	for range 4000 {
		s := inOrder(r)
		sound(t, "in order", s)
		packet := drawBytes(r, r.Intn(300))
		p, e := wire.Parse(s, drawIn(r, s), packet)
		if e != api.OK {
			continue
		}
		met += len(p.Heads)
		checkBuild(t, "Build of Parse", s, p, packet, api.OK)
		if e := wire.Right(s, p); e != api.OK {
			t.Errorf("not right: %d %s", e, short(p))
		}
		s = drawSound(r)
		if p, e := wire.Parse(s, drawIn(r, s), packet); e == api.OK && wire.Right(s, p) != api.OK {
			t.Errorf("not right: %s", short(p))
		}
	}
	if met < 3000 {
		t.Errorf("%d headers were taken", met)
	}
}

// TestGetBehindSet: it is the value, cut, if the header is there; and nothing else that Get tells has changed.
func TestGetBehindSet(t *testing.T) {
	r := rand.New(rand.NewSource(8))
	d := &drawer{Rand: r}
	for range 600 {
		s := drawSound(r)
		p := drawPacket(r, s)
		all := append(refs(s), ref("", ""), ref("x", "x"))
		at, a := drawRef(r, s), d.value(128)
		q := wire.Set(s, p, at, a)
		for _, other := range all {
			want := wire.Get(s, p, other)
			there := other.Head == "meta" || slices.ContainsFunc(p.Heads, func(f api.Filled) bool { return f.Name == other.Head })
			if other == at && there && modelWidth(s, at) > 0 {
				want = modelCut(a, modelWidth(s, at))
			}
			if got := wire.Get(s, q, other); got != want {
				t.Fatalf("behind Set(%v, %v): Get(%v) = %v; want %v: %s", at, a, other, got, want, short(p))
			}
		}
		if q.Rest != p.Rest || len(q.Heads) != len(p.Heads) {
			t.Fatalf("%s of %s", short(q), short(p))
		}
	}
}

// TestOnesBehindSum: it is 0, of a field at an even byte of a header of an even number of bytes.
func TestOnesBehindSum(t *testing.T) {
	r := rand.New(rand.NewSource(9))
	d := &drawer{Rand: r}
	met := 0
	for range 3000 {
		ahead, behind := 8*r.Intn(8), 8*r.Intn(8)
		var widths []int
		for _, part := range []int{ahead, 0, behind} {
			if part == 0 {
				continue
			}
			cut := r.Intn(part)
			if cut > 0 {
				widths = append(widths, cut)
			}
			widths = append(widths, part-cut)
		}
		// The field comes behind those that are ahead, which have that many bits together.
		at, sum := 0, 0
		for sum < ahead {
			sum += widths[at]
			at++
		}
		widths = slices.Insert(widths, at, 16)
		s := api.Schema{Headers: []api.Header{header("h", widths...)}}
		sound(t, "sum", s)
		if ahead%16 != 0 || behind%16 != 0 {
			continue
		}
		met++
		f := api.Filled{Name: "h"}
		for _, width := range widths {
			f.Values = append(f.Values, d.value(width))
		}
		q := wire.Sum(s, api.Packet{Heads: []api.Filled{f}}, ref("h", fmt.Sprint("f", at)))
		b, e := wire.Bytes(s, q.Heads[0])
		if e != api.OK || sums.Ones(b) != 0 {
			t.Fatalf("%d: Ones of %x is %x", e, b, sums.Ones(b))
		}
	}
	if met < 300 {
		t.Errorf("met %d times", met)
	}
}

// TestRemoveBehindAdd: of a header that was not there it is the packet.
func TestRemoveBehindAdd(t *testing.T) {
	r := rand.New(rand.NewSource(10))
	for range 1000 {
		s := drawSound(r)
		p := drawPacket(r, s)
		for _, h := range s.Headers {
			if slices.ContainsFunc(p.Heads, func(f api.Filled) bool { return f.Name == h.Name }) {
				continue
			}
			checkPacket(t, "Remove behind Add", wire.Remove(s, wire.Add(s, p, h.Name), h.Name), p)
		}
	}
}

// TestAnswersAreRight: behind any row of changes the packet is right, and what the model says.
func TestAnswersAreRight(t *testing.T) {
	r := rand.New(rand.NewSource(11))
	d := &drawer{Rand: r}
	for range 400 {
		s := drawSound(r)
		p := drawPacket(r, s)
		want := p
		for range 20 {
			at, a, header := drawRef(r, s), d.value(128), drawHeader(r, s)
			switch r.Intn(5) {
			case 0, 1:
				p, want = wire.Set(s, p, at, a), modelSet(s, want, at, a)
			case 2:
				p, want = wire.Add(s, p, header), modelAdd(s, want, header)
			case 3:
				p, want = wire.Remove(s, p, header), modelRemove(s, want, header)
			case 4:
				p, want = wire.Sum(s, p, at), modelSum(s, want, at)
			}
			if e := wire.Right(s, p); e != api.OK || !same(p, want) {
				t.Fatalf("%d: %s; want %s", e, short(p), short(want))
			}
		}
	}
}
