package match_test

import (
	"math/rand"
	"testing"

	"turnout/api"
	"turnout/match"
	"turnout/schema"
)

// TestTurnedEntries: an entry that something was changed of has the model's errors; if it is right, the model's texts and bytes. P11.1, P11.5, P11.6
func TestTurnedEntries(t *testing.T) {
	r := rand.New(rand.NewSource(8))
	met := map[api.Errno]int{}
	for range 6000 {
		s := drawSound(r)
		if r.Intn(3) == 0 {
			s = whole()
		}
		table := s.Tables[r.Intn(len(s.Tables))].Name
		e := drawEntry(r, s, table)
		turn(r, &e)
		who, whole := modelWho(s, table, e), modelRight(s, table, e)
		met[whole]++
		checkRight(t, "turned", s, table, e, who, whole)
		if whole == api.OK {
			checkTexts(t, s, table, e, modelWhoText(s, table, e), modelText(s, table, e))
			checkBytes(t, s, table, e, modelPackWho(s, table, e), modelPack(s, table, e))
		}
		if t.Failed() {
			t.Fatalf("%s of %s", short(e), short(s))
		}
	}
	for _, code := range []api.Errno{api.OK, api.ErrKey, api.ErrPriority, api.ErrAction, api.ErrArgs} {
		if met[code] < 100 {
			t.Errorf("the error %d was met %d times", code, met[code])
		}
	}
}

// TestTurnedSchemas: a schema that is not sound is refused by every call, ahead of what else is wrong. P11.1 to P11.6
func TestTurnedSchemas(t *testing.T) {
	r := rand.New(rand.NewSource(9))
	unsound, sound := 0, 0
	for range 5000 {
		s := drawSound(r)
		if r.Intn(2) == 0 {
			s = whole()
		}
		table := s.Tables[r.Intn(len(s.Tables))].Name
		e := drawEntry(r, s, table)
		text, b, key := modelText(s, table, e), modelPack(s, table, e), drawKey(r, s, table, []api.Entry{e})
		turn(r, &s)
		if code, _ := schema.Check(s); code != api.OK {
			unsound++
			if r.Intn(4) == 0 {
				table = "x"
			}
			checkRefused(t, s, table, e, text, b, key, api.ErrSchema)
		} else if _, _, ok := schema.Table(s, table); ok {
			sound++
			checkRight(t, "turned", s, table, e, modelWho(s, table, e), modelRight(s, table, e))
			checkHits(t, "turned", s, table, e, key, modelHits(s, table, e, key))
		} else {
			checkRefused(t, s, table, e, text, b, key, api.ErrTable)
		}
		if t.Failed() {
			t.Fatalf("%s of %s", short(e), short(s))
		}
	}
	if unsound < 1000 || sound < 1000 {
		t.Errorf("%d not sound, %d sound", unsound, sound)
	}
}

// checkRefused: of a schema that is not sound, or where there is no such table, no call answers anything.
func checkRefused(t *testing.T, s api.Schema, table string, e api.Entry, text, b string, key []api.Bits, want api.Errno) {
	t.Helper()
	checkRight(t, "refused", s, table, e, want, want)
	noText(t, s, table, text, want)
	noBytes(t, s, table, b, want)
	checkHits(t, "refused", s, table, e, key, false)
	checkBoth(t, "refused", s, table, e, e, false, false)
	sizes(t, s, table, 0, 0)
}

// TestFollows: Parse of Text and Unpack of Pack are the entry, whatever table. P11.7
func TestFollows(t *testing.T) {
	r := rand.New(rand.NewSource(10))
	for range 2000 {
		s := drawSound(r)
		for _, table := range s.Tables {
			e := drawEntry(r, s, table.Name)
			text, code := match.Text(s, table.Name, e)
			read, code2 := match.Parse(s, table.Name, text)
			b, code3 := match.Pack(s, table.Name, e)
			unpacked, code4 := match.Unpack(s, table.Name, b)
			if code+code2+code3+code4 != api.OK || !same(read, e) || !same(unpacked, e) {
				t.Fatalf("%s, %s of %s", short(read), short(unpacked), short(e))
			}
			if len(b) > match.Size(s, table.Name) || len(b) <= match.WhoSize(s, table.Name) {
				t.Fatalf("%d bytes of %d to %d", len(b), match.WhoSize(s, table.Name), match.Size(s, table.Name))
			}
			// A beginning of its bytes that is not all of them is none's, nor are they with one more.
			for _, other := range []string{b[:len(b)-1], b + "\x00", b[:r.Intn(len(b))]} {
				if got, code := match.Unpack(s, table.Name, other); !same(got, api.Entry{}) || code != api.ErrEntry {
					t.Fatalf("%x of %x: %s %d", other, b, short(got), code)
				}
			}
		}
	}
}
