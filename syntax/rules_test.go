package syntax_test

import (
	"math/rand"
	"reflect"
	"runtime"
	"slices"
	"strings"
	"sync"
	"testing"
	"unsafe"

	"turnout/api"
	"turnout/schema"
	"turnout/syntax"
)

// R1

// TestDeep: stages stand within one another as deep as a text can say it.
func TestDeep(t *testing.T) {
	for _, open := range []string{"apply t{", "if a<1{", "apply t{}else{", "if valid h{}else{"} {
		count := (api.MaxText - len("control{}")) / (len(open) + 1)
		s := read(t, "control{"+strings.Repeat(open, count)+strings.Repeat("}", count)+"}")
		deep := 0
		for list := s.Control; len(list) > 0; deep++ {
			list = append(list[0].Then, list[0].Else...)
		}
		if deep != count {
			t.Errorf("%q: %d; want %d", open, deep, count)
		}
		checkUnsound(t, "control{"+strings.Repeat(open, count)+strings.Repeat("}", count)+"}", api.ErrMany, pos(1, 1))
		all := (api.MaxText - len("control{;")) / len(open)
		checkFault(t, "control{"+strings.Repeat(open, all), api.ErrEnd, pos(1, 9+all*len(open)))
		checkFault(t, "control{"+strings.Repeat(open, all)+";", api.ErrSyntax, pos(1, 9+all*len(open)))
	}
}

// TestFewWords: each text of up to two words is answered, and each of three that begins a thing.
func TestFewWords(t *testing.T) {
	all := vocabulary()
	for _, a := range all {
		checkModel(t, a)
		for _, b := range all {
			checkModel(t, a+" "+b)
			if slices.Contains(kinds, a) {
				checkModel(t, a+" x "+b)
				checkModel(t, a+" x { "+b)
				checkModel(t, a+" { "+b)
			}
		}
	}
	for a := range 256 {
		for b := range 256 {
			checkModel(t, string([]byte{byte(a), byte(b)}))
		}
	}
}

// R3

// A stretch is a piece of memory.
type stretch struct{ at, size uintptr }

// memory are the stretches of all lists, with their spare room, and of all texts of an answer.
func memory(v reflect.Value) []stretch {
	var list []stretch
	switch v.Kind() {
	case reflect.Struct:
		for i := range v.NumField() {
			list = append(list, memory(v.Field(i))...)
		}
	case reflect.Slice:
		if v.Cap() > 0 {
			list = append(list, stretch{v.Pointer(), uintptr(v.Cap()) * v.Type().Elem().Size()})
		}
		for i := range v.Len() {
			list = append(list, memory(v.Index(i))...)
		}
	case reflect.String:
		if s := v.String(); s != "" {
			list = append(list, stretch{uintptr(unsafe.Pointer(unsafe.StringData(s))), uintptr(len(s))})
		}
	}
	return list
}

// apart tells whether no two stretches have a byte in common.
func apart(list []stretch) bool {
	list = slices.SortedFunc(slices.Values(list), func(a, b stretch) int { return int(int64(a.at) - int64(b.at)) })
	for i := range list[:max(len(list), 1)-1] {
		if list[i].at+list[i].size > list[i+1].at {
			return false
		}
	}
	return true
}

// mutable is a text over bytes that can be changed behind its back.
func mutable(s string) (string, []byte) {
	b := []byte(s)
	return unsafe.String(&b[0], len(b)), b
}

// TestAnswersAreNewMemory: an answer shares none with the text, with itself, or with another.
func TestAnswersAreNewMemory(t *testing.T) {
	for _, source := range []string{textT, textAll} {
		text, under := mutable(source)
		one, _ := syntax.Schema(text)
		other, _ := syntax.Schema(text)
		sound, _ := syntax.Sound(text)
		again, _ := syntax.Sound(text)
		list := []stretch{{uintptr(unsafe.Pointer(&under[0])), uintptr(len(under))}}
		for _, s := range []api.Schema{one, other, sound, again} {
			list = append(list, memory(reflect.ValueOf(s))...)
		}
		if len(list) < 100 || !apart(list) {
			t.Errorf("%s: answers share memory", short(source))
		}
		if string(under) != source {
			t.Error("the text was changed")
		}
		copy(under, strings.Repeat("!", len(under)))
		want := read(t, source)
		for _, s := range []api.Schema{one, other, sound, again} {
			same(t, source, s, want)
		}
		// Memory that nobody holds any more might be given out again.
		runtime.KeepAlive([]any{one, other, sound, again, under})
	}
}

// TestAnswersAreTheirOwners: what is done to an answer is not seen in another.
func TestAnswersAreTheirOwners(t *testing.T) {
	want := schema.Copy(read(t, textAll))
	one, other := read(t, textAll), read(t, textAll)
	wipe(reflect.ValueOf(&one).Elem())
	same(t, textAll, other, want)
	same(t, textAll, read(t, textAll), want)
}

// wipe makes all that an answer's lists hold zero, their spare room too.
func wipe(v reflect.Value) {
	switch v.Kind() {
	case reflect.Struct:
		for i := range v.NumField() {
			wipe(v.Field(i))
		}
	case reflect.Slice:
		for i := range v.Len() {
			wipe(v.Index(i))
		}
		for i := range v.Cap() {
			v.Slice(0, v.Cap()).Index(i).SetZero()
		}
	}
}

// R4

// TestOnNothingElse: the same is answered again and again, and side by side.
func TestOnNothingElse(t *testing.T) {
	r := rand.New(rand.NewSource(9))
	list := []string{textT, textAll, "header eth { dst 48; }", "meta { a: 0; } header x { a: 8; }"}
	for range 20 {
		list = append(list, spread(r, drawWords(r, 40)))
	}
	for _, text := range list {
		want, fault := syntax.Schema(text)
		_, soundFault := syntax.Sound(text)
		at, ok := syntax.Place(text, "header")
		var all sync.WaitGroup
		for range 4 {
			all.Go(func() {
				for range 10 {
					s, f := syntax.Schema(text)
					_, g := syntax.Sound(text)
					p, found := syntax.Place(text, "header")
					if f != fault || g != soundFault || p != at || found != ok || !schema.Same(s, want) {
						t.Errorf("%s is answered otherwise", short(text))
					}
				}
			})
		}
		all.Wait()
	}
}
