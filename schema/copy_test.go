package schema_test

import (
	"reflect"
	"strings"
	"testing"
	"unsafe"

	"turnout/api"
	"turnout/schema"
)

// P7.6

// full is a schema, not sound, in which no field is zero, and no list empty.
func full() api.Schema {
	var s api.Schema
	fill(reflect.ValueOf(&s).Elem(), new(int), 3)
	return s
}

// fill makes a value unlike all others, its lists of two things; stages stand within one another so deep.
func fill(v reflect.Value, next *int, deep int) {
	*next++
	switch v.Kind() {
	case reflect.Struct:
		for i := range v.NumField() {
			fill(v.Field(i), next, deep)
		}
	case reflect.Slice:
		if v.Type() == reflect.TypeFor[[]api.Stage]() {
			deep--
		}
		if deep == 0 {
			return
		}
		v.Set(reflect.MakeSlice(v.Type(), 2, 2))
		for i := range 2 {
			fill(v.Index(i), next, deep)
		}
	case reflect.String:
		v.SetString(strings.Repeat("x", 1+*next))
	case reflect.Int:
		v.SetInt(int64(*next))
	case reflect.Uint64:
		v.SetUint(uint64(*next))
	case reflect.Bool:
		v.SetBool(true)
	}
}

// parts hands over all texts, numbers and lists of a value.
func parts(v reflect.Value, f func(reflect.Value)) {
	switch v.Kind() {
	case reflect.Struct:
		for i := range v.NumField() {
			parts(v.Field(i), f)
		}
	case reflect.Slice:
		f(v)
		for i := range v.Len() {
			parts(v.Index(i), f)
		}
	default:
		f(v)
	}
}

func checkSame(t *testing.T, what string, a, b api.Schema, want bool) {
	t.Helper()
	if schema.Same(a, b) != want || schema.Same(b, a) != want {
		t.Errorf("%s: Same is %v", what, !want)
	}
}

// TestSameOfEachPart: whatever part of a schema is another one, it is not the same.
func TestSameOfEachPart(t *testing.T) {
	count := 0
	a := full()
	parts(reflect.ValueOf(&a).Elem(), func(v reflect.Value) {
		count++
		was := deep(v)
		switch v.Kind() {
		case reflect.String:
			v.SetString(v.String() + "y")
		case reflect.Int:
			v.SetInt(-v.Int())
		case reflect.Uint64:
			v.SetUint(v.Uint() + 1<<63)
		case reflect.Bool:
			v.SetBool(false)
		case reflect.Slice:
			if v.Len() == 0 {
				v.Set(reflect.MakeSlice(v.Type(), 1, 1))
				break
			}
			v.Set(v.Slice(0, 1))
		}
		checkSame(t, v.Type().String(), a, full(), false)
		if v.Kind() == reflect.Slice && was.Len() > 0 {
			v.SetZero()
			checkSame(t, "no "+v.Type().String(), a, full(), false)
			v.Set(reflect.MakeSlice(v.Type(), 0, 1))
			checkSame(t, "an empty "+v.Type().String(), a, full(), false)
			v.Set(reflect.Append(deep(was), deep(was.Index(0))))
			checkSame(t, "a longer "+v.Type().String(), a, full(), false)
			v.Set(deep(was))
			reflect.Swapper(v.Interface())(0, 1)
			checkSame(t, "a swapped "+v.Type().String(), a, full(), false)
		}
		v.Set(was)
		checkSame(t, "as it was", a, full(), true)
	})
	if count < 250 {
		t.Errorf("%d parts", count)
	}
}

func TestSame(t *testing.T) {
	checkSame(t, "the empty one", api.Schema{}, api.Schema{}, true)
	checkSame(t, "the sample", sample(), sample(), true)
	checkSame(t, "the sample and nothing", sample(), api.Schema{}, false)
	checkSame(t, "two that are not sound", double(), double(), true)
	checkSame(t, "nil and empty", withEmpty(full()), full(), true)
	checkSame(t, "nil and empty", withEmpty(api.Schema{}), api.Schema{}, true)
	checkSame(t, "a header without fields", api.Schema{Headers: []api.Header{{}}}, api.Schema{Headers: []api.Header{{Fields: []api.Field{}}}}, true)
	checkSame(t, "a header and none", api.Schema{Headers: []api.Header{{}}}, api.Schema{}, false)
	checkSame(t, "Then and Else", api.Schema{Control: []api.Stage{{Then: []api.Stage{{}}}}}, api.Schema{Control: []api.Stage{{Else: []api.Stage{{}}}}}, false)
}

// withEmpty is a schema in new memory whose lists that are nil are empty ones.
func withEmpty(s api.Schema) api.Schema {
	s = deepCopy(s)
	parts(reflect.ValueOf(&s).Elem(), func(v reflect.Value) {
		if v.Kind() == reflect.Slice && v.Len() == 0 {
			v.Set(reflect.MakeSlice(v.Type(), 0, 2))
		}
	})
	return s
}

func TestCopy(t *testing.T) {
	for _, s := range []api.Schema{{}, sample(), double(), full(), withEmpty(full()), withEmpty(sample()), withEmpty(api.Schema{})} {
		c := schema.Copy(s)
		if !alikePlain(c, s) {
			t.Errorf("%s; want %s", short(c), short(s))
		}
		checkSame(t, "a copy", c, s, true)
	}
	drawnSchemas(5, 3000, func(s api.Schema) {
		if c := schema.Copy(s); !alikePlain(c, s) || !schema.Same(c, s) || !schema.Same(s, c) {
			t.Fatalf("%s; want %s", short(c), short(s))
		}
	})
}

// TestSameIsAlike: two drawn schemas are the same just if they are alike.
func TestSameIsAlike(t *testing.T) {
	last := sample()
	drawnSchemas(6, 2000, func(s api.Schema) {
		if schema.Same(s, last) != alikePlain(s, last) || schema.Same(s, sample()) != alikePlain(s, sample()) {
			t.Fatalf("%s and %s", short(s), short(last))
		}
		last = s
	})
}

// TestCopyIsItsOwners: whatever its owner does to a copy, or to what was copied, the other one stays.
func TestCopyIsItsOwners(t *testing.T) {
	for _, spoilt := range []string{"the copy", "the other one"} {
		s := withRoom(full())
		c := schema.Copy(s)
		one, other := c, s
		if spoilt == "the other one" {
			one, other = s, c
		}
		spoil(reflect.ValueOf(one))
		if !alikePlain(other, full()) {
			t.Errorf("what was done to %s is seen: %s", spoilt, short(other))
		}
	}
}

// spoil overwrites all things of all lists, their spare room too.
func spoil(v reflect.Value) {
	switch v.Kind() {
	case reflect.Struct:
		for i := range v.NumField() {
			spoil(v.Field(i))
		}
	case reflect.Slice:
		for i := range v.Len() {
			spoil(v.Index(i))
		}
		whole := v.Slice(0, v.Cap())
		for i := range whole.Len() {
			whole.Index(i).SetZero()
		}
	}
}

// withRoom is a schema in new memory whose lists have spare room, with things in it.
func withRoom(s api.Schema) api.Schema {
	s = deepCopy(s)
	parts(reflect.ValueOf(&s).Elem(), func(v reflect.Value) {
		if v.Kind() != reflect.Slice {
			return
		}
		size := v.Len()
		list := reflect.MakeSlice(v.Type(), size+2, size+2)
		reflect.Copy(list, v)
		for i := range 2 {
			next := 1000
			fill(list.Index(size+i), &next, 1)
		}
		v.Set(list.Slice(0, size))
	})
	return s
}

// A stretch is where bytes of a value lie.
type stretch struct {
	at   uintptr
	size uintptr
}

// memory are the stretches of all lists, with their spare room, and of all texts of a value.
func memory(v reflect.Value) []stretch {
	var list []stretch
	parts(v, func(v reflect.Value) {
		switch v.Kind() {
		case reflect.Slice:
			if v.Cap() > 0 {
				list = append(list, stretch{v.Pointer(), uintptr(v.Cap()) * v.Type().Elem().Size()})
			}
		case reflect.String:
			if v.Len() > 0 {
				list = append(list, stretch{uintptr(unsafe.Pointer(unsafe.StringData(v.String()))), uintptr(v.Len())})
			}
		}
	})
	return list
}

// apart tells whether no two of some stretches have a byte in common.
func apart(list []stretch) bool {
	for i, a := range list {
		for _, b := range list[:i] {
			if a.at < b.at+b.size && b.at < a.at+a.size {
				return false
			}
		}
	}
	return true
}
