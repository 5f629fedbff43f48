package match_test

import (
	"fmt"
	"math/rand"
	"strings"
	"testing"

	"turnout/api"
	"turnout/match"
)

// P11.6

// TestBytes: of all kinds and widths.
func TestBytes(t *testing.T) {
	s := whole()
	ones := func(n int) string { return strings.Repeat("\xff", n) }
	noughts := func(n int) string { return strings.Repeat("\x00", n) }
	for _, x := range []struct {
		table     string
		e         api.Entry
		who, call string
	}{
		{"route", entry(0, call("none"), begins(0, 0), exactly(0)), noughts(6), "\x00"},
		{"route", entry(0, call("out", 0x102), begins(0x0a0b0c00, 24), exactly(6)), "\x0a\x0b\x0c\x00\x18\x06", "\x01\x01\x02"},
		{"route", entry(0, api.Call{Action: "hop", Args: []api.Bits{n(0x010203040506), n(0x0708090a), {Hi: 0x0b0c, Lo: 0x0d}}}, begins(0xffffffff, 32), exactly(255)), "\xff\xff\xff\xff\x20\xff", "\x02\x01\x02\x03\x04\x05\x06\x07\x08\x09\x0a" + "\x00\x00\x00\x00\x00\x00\x0b\x0c\x00\x00\x00\x00\x00\x00\x00\x0d"},
		{"acl", entry(0x010203, call("grow", 1, 0x7f), between(1, 0x1ff), masked(0x10, 0x11), exactly(1), api.Match{Mask: most}), "\x00\x01\x01\xff" + "\x00\x00\x00\x00\x00\x10\x00\x00\x00\x00\x00\x11" + "\x01" + noughts(16) + ones(16) + "\x00\x01\x02\x03", "\x00\x01\x7f"},
		{"acl", entry(api.MaxPriority, call("out", 0x1ff), between(0, 0), masked(0, 0), exactly(0), between(0, 0)), noughts(4+12+1+32) + "\x01\x00\x00\x00", "\x01\x01\xff"},
		{"mac", entry(0, call("none"), exactly(1), api.Match{Value: api.Bits{Hi: 2}}, exactly(3)), "\x00\x00\x00\x00\x00\x01" + "\x00\x00\x00\x00\x00\x00\x00\x02" + noughts(8) + "\x00\x00\x00\x00\x00\x03", "\x01"},
		{"long", entry(0, call("none"), api.Match{Value: most, Len: 128}), ones(16) + "\x80", "\x00"},
	} {
		checkBytes(t, s, x.table, x.e, x.who, x.who+x.call)
	}
}

// TestSizes: by hand.
func TestSizes(t *testing.T) {
	s := whole()
	sizes(t, s, "route", 4+1+1, 6+1+6+4+16)
	sizes(t, s, "acl", 2+2+6+6+1+16+16+4, 53+1+2)
	sizes(t, s, "mac", 6+16+6, 28+1+26)
	sizes(t, s, "long", 17, 18)
	for _, table := range []string{"", "x", "none", "Route"} {
		sizes(t, s, table, 0, 0)
	}
	for width := 1; width <= 128; width++ {
		b := (width + 7) / 8
		sizes(t, keyed(kindred{api.Exact, width}), "t", b, b+1)
		sizes(t, keyed(kindred{api.Prefix, width}), "t", b+1, b+2)
		sizes(t, keyed(kindred{api.Ternary, width}), "t", 2*b+4, 2*b+5)
		sizes(t, keyed(kindred{api.Range, width}), "t", 2*b+4, 2*b+5)
	}
	// The longest call counts, wherever it stands; of actions that the table has alone.
	s = keyed(kindred{api.Exact, 8})
	s.Actions = append(s.Actions, api.Action{Name: "f", Params: []api.Field{{Name: "a", Width: 128}}}, api.Action{Name: "h", Params: []api.Field{{Name: "a", Width: 9}, {Name: "b", Width: 1}}})
	sizes(t, s, "t", 1, 2)
	s.Tables[0].Actions = []string{"h", "g"}
	sizes(t, s, "t", 1, 5)
	s.Tables[0].Actions = []string{"g", "h"}
	sizes(t, s, "t", 1, 5)
	s.Tables[0].Actions = []string{"h", "f", "g"}
	sizes(t, s, "t", 1, 18)
	s.Tables[0].Size = 0
	sizes(t, s, "t", 0, 0)
}

// TestManyActions: an action's number counts from 0 on, in one byte, up to the last of 64.
func TestManyActions(t *testing.T) {
	s := keyed(kindred{api.Exact, 8})
	s.Actions, s.Tables[0].Actions = nil, nil
	for i := range api.MaxActions {
		name := fmt.Sprint("a", i)
		s.Actions = append(s.Actions, api.Action{Name: name})
		// The table has them the other way round.
		s.Tables[0].Actions = append([]string{name}, s.Tables[0].Actions...)
	}
	s.Tables[0].Default = call("a0")
	sound(t, "many actions", s)
	for i, name := range s.Tables[0].Actions {
		checkBytes(t, s, "t", entry(0, call(name), exactly(7)), "\x07", "\x07"+string([]byte{byte(i)}))
	}
	for _, b := range []string{"\x07\x40", "\x07\x7f", "\x07\x80", "\x07\xff"} {
		if e, code := match.Unpack(s, "t", b); !same(e, api.Entry{}) || code != api.ErrEntry {
			t.Errorf("%x: %s %d", b, short(e), code)
		}
	}
}

// TestWrongBytes: what are the bytes of no entry.
func TestWrongBytes(t *testing.T) {
	s := small()
	for _, b := range []string{
		"", "\x01", "\x01\x12\x00", "\x01\x12\x00\x08\x00", "\x01\x12\x00\x08\x00\x01", "\x01\x12\x00\x08\x00\x01\x00\x00", // their lengths
		"\x01\x12\x00\x08\x01\x00", "\x01\x12\x00\x08\x01\x00\x00", "\x01\x12\x00\x08\x00\x02\x00", // no arguments; ten bits
		"\x01\x12\x34\x08\x01", "\x01\x12\x00\x06\x01", "\x01\x12\x00\x11\x01", "\x01\x12\x00\xff\x01", "\x01\x00\x00\x80\x01", // the prefix
		"\x01\x12\x00\x08\x02", "\x01\x12\x00\x08\xff",
	} {
		noBytes(t, s, "t", b, api.ErrEntry)
	}
	for _, b := range []string{
		"\x02\x03\x00\x05\x00\x09\x00\x00\x00\x00\x00", "\x02\x03\x00\x05\x00\x09\x01\x00\x00\x01\x00", "\x02\x03\x00\x05\x00\x09\xff\xff\xff\xff\x00", "\x02\x03\x00\x05\x00\x09\x80\x00\x00\x01\x00", // the priority
		"\x04\x03\x00\x05\x00\x09\x00\x00\x00\x07\x00", "\x02\x03\x00\x09\x00\x05\x00\x00\x00\x07\x00", // the matches
		"\x02\x03\x00\x05\x00\x09\x00\x00\x00\x07\x01", "\x02\x03\x00\x05\x00\x09\x00\x00\x00\x07\x00\x00", "\x02\x03\x00\x05\x00\x09\x00\x00\x00",
	} {
		noBytes(t, s, "u", b, api.ErrEntry)
	}
	// Who an entry is ends where its call begins.
	if e, code := match.UnpackWho(s, "t", "\x01\x12\x00\x08\x01"); !same(e, api.Entry{}) || code != api.ErrEntry {
		t.Errorf("UnpackWho with a call: %s %d", short(e), code)
	}
	if e, code := match.Unpack(s, "t", "\x01\x12\x00\x08"); !same(e, api.Entry{}) || code != api.ErrEntry {
		t.Errorf("Unpack without a call: %s %d", short(e), code)
	}
	for _, width := range []int{1, 7, 9, 15, 63, 65, 127} {
		for _, kind := range kinds {
			s := keyed(kindred{kind, width})
			size := match.WhoSize(s, "t")
			noBytes(t, s, "t", strings.Repeat("\xff", size), api.ErrEntry)
			noBytes(t, s, "t", strings.Repeat("\xff", size+1), api.ErrEntry)
		}
	}
	great := strings.Repeat("\x00", 1<<20)
	noBytes(t, s, "t", great, api.ErrEntry)
	noBytes(t, s, "u", great, api.ErrEntry)
	noBytes(t, s, "v", great, api.ErrTable)
	noBytes(t, s, "v", "", api.ErrTable)
	s.Tables[0].Size = 0
	noBytes(t, s, "u", "\x02\x03\x00\x05\x00\x09\x00\x00\x00\x07\x00", api.ErrSchema)
	noBytes(t, s, "v", great, api.ErrSchema)
}

// turnBytes changes a byte, or how many there are.
func turnBytes(r *rand.Rand, b string) string {
	out := []byte(b)
	switch i := r.Intn(len(out)); r.Intn(6) {
	case 0:
		out = append(out, byte(r.Intn(2)))
	case 1:
		out = out[:i]
	case 2:
		out = append(out[:i:i], out[i+1:]...)
	case 3:
		out[i] ^= 1 << r.Intn(8)
	case 4:
		out[len(out)-1-r.Intn(min(len(out), 3))] = byte(r.Intn(4))
	default:
		out[i] = byte(r.Intn(256))
	}
	return string(out)
}

// TestDrawnBytes: a drawn entry's bytes are the model's, as many as the sizes say; what is read of bytes that were changed is the model's.
func TestDrawnBytes(t *testing.T) {
	r := rand.New(rand.NewSource(7))
	taken, refused := 0, 0
	for range 4000 {
		s := drawSound(r)
		table := s.Tables[r.Intn(len(s.Tables))].Name
		e := drawEntry(r, s, table)
		who, whole := modelPackWho(s, table, e), modelPack(s, table, e)
		checkBytes(t, s, table, e, who, whole)
		whoSize, wholeSize := modelSizes(s, table)
		sizes(t, s, table, whoSize, wholeSize)
		if len(who) != whoSize || len(whole) > wholeSize {
			t.Errorf("%d and %d bytes; the sizes are %d, %d", len(who), len(whole), whoSize, wholeSize)
		}
		for range 5 {
			b := turnBytes(r, whole)
			wantE := api.OK
			want, ok := modelUnpack(s, table, b)
			if !ok {
				wantE = api.ErrEntry
			}
			if got, code := match.Unpack(s, table, b); !same(got, want) || code != wantE {
				t.Errorf("Unpack of %x: %s %d; want %s %d", b, short(got), code, short(want), wantE)
			}
			if ok {
				taken++
				if again, code := match.Pack(s, table, want); again != b || code != api.OK {
					t.Errorf("Pack behind Unpack: %x; want %x", again, b)
				}
			} else {
				refused++
			}
			b = turnBytes(r, who)
			wantE = api.OK
			want, left, ok := modelUnpackWho(s, table, b)
			if !ok || left != "" {
				want, wantE = api.Entry{}, api.ErrEntry
			}
			if got, code := match.UnpackWho(s, table, b); !same(got, want) || code != wantE {
				t.Errorf("UnpackWho of %x: %s %d; want %s %d", b, short(got), code, short(want), wantE)
			}
		}
		if t.Failed() {
			t.Fatalf("%s", short(s))
		}
	}
	if taken < 1000 || refused < 5000 {
		t.Errorf("%d taken, %d refused", taken, refused)
	}
}

// TestAllBytes: of a small table, each two and three bytes are read as the model says; so many are taken as there are entries.
func TestAllBytes(t *testing.T) {
	s := keyed(kindred{api.Prefix, 3})
	s.Actions = append(s.Actions, api.Action{Name: "f", Params: []api.Field{{Name: "p", Width: 2}}})
	s.Tables[0].Actions = []string{"g", "f"}
	taken := 0
	for i := range 1 << 16 {
		b := string([]byte{byte(i >> 8), byte(i)})
		want, _, ok := modelUnpackWho(s, "t", b)
		got, code := match.UnpackWho(s, "t", b)
		if ok != (code == api.OK) || !same(got, want) {
			t.Fatalf("UnpackWho of %x: %s %d", b, short(got), code)
		}
		if ok {
			taken++
			for k := range 8 {
				if whole, ok := match.Unpack(s, "t", b+"\x01"+string([]byte{byte(k)})); (ok == api.OK) != (k < 4) || ok == api.OK && (whole.Call.Action != "f" || whole.Call.Args[0] != n(uint64(k))) {
					t.Fatalf("Unpack of %x, %d: %s %d", b, k, short(whole), ok)
				}
			}
		}
	}
	if taken != 1+2+4+8 {
		t.Errorf("%d were taken", taken)
	}
}
