package print_test

import (
	"math"
	"math/big"
	"math/rand"
	"strings"
	"testing"

	"turnout/api"
	"turnout/print"
	"turnout/value"
)

// modelValue is a value's text, by the library's great numbers.
func modelValue(a api.Bits) string {
	x := new(big.Int).SetUint64(a.Hi)
	x.Lsh(x, 64).Add(x, new(big.Int).SetUint64(a.Lo))
	if x.Cmp(new(big.Int).Lsh(big.NewInt(1), 32)) < 0 {
		return x.Text(10)
	}
	return "0x" + x.Text(16)
}

func checkValue(t *testing.T, a api.Bits) {
	t.Helper()
	text := print.Value(a)
	if want := modelValue(a); text != want {
		t.Errorf("Value(%v): %q; want %q", a, text, want)
	}
	if b, e := value.Parse(text, 128); b != a || e != api.OK {
		t.Errorf("Value(%v): %q is read as %v, %d", a, text, b, e)
	}
}

// P9.1
func TestValue(t *testing.T) {
	for x := range uint64(3000) {
		checkValue(t, n(x))
		checkValue(t, n(math.MaxUint32-1500+x))
		checkValue(t, n(math.MaxUint64-x))
		checkValue(t, api.Bits{Hi: x, Lo: x})
		checkValue(t, api.Bits{Hi: x})
		checkValue(t, api.Bits{Hi: math.MaxUint64, Lo: math.MaxUint64 - x})
	}
	for i := range 128 {
		a := api.Bits{Lo: 1 << i}
		if i >= 64 {
			a = api.Bits{Hi: 1 << (i - 64)}
		}
		checkValue(t, a)
		checkValue(t, api.Bits{Hi: a.Hi, Lo: a.Lo | 1})
		checkValue(t, api.Bits{Hi: ^a.Hi, Lo: ^a.Lo})
	}
	r := rand.New(rand.NewSource(1))
	for range 20000 {
		checkValue(t, api.Bits{Hi: r.Uint64() >> r.Intn(65), Lo: r.Uint64() >> r.Intn(65)})
		checkValue(t, n(r.Uint64()>>r.Intn(65)))
	}
}

// reserved are the words that are no names.
const reserved = "accept action add again apply can control default drop else exact exit fixed header if key meta on prefix range reject remove size state sum table take ternary valid"

// P9.2
func TestCallName(t *testing.T) {
	wrong := append(strings.Fields(reserved), "", " ", "A", "f ", " f", "f(", "f()", "f.g", "1f", "_f", "f-g", "fA", "f\n", "f\x00", "é", "fé", "\xff", strings.Repeat("f", 33), strings.Repeat("f", 70000))
	for _, name := range wrong {
		for _, count := range []int{0, 1, 8, 9} {
			if text, e := print.Call(api.Call{Action: name, Args: make([]api.Bits, count)}); text != "" || e != api.ErrName {
				t.Errorf("%.40q with %d arguments: %d %.40q", name, count, e, text)
			}
		}
	}
	for _, name := range []string{"f", "z", "a9", "f_", "drops", "dro", "drop_", "metas", "acceptor", strings.Repeat("f", 32), "z" + strings.Repeat("_", 31)} {
		if text, e := print.Call(api.Call{Action: name}); text != name+"()" || e != api.OK {
			t.Errorf("%q: %d %q", name, e, text)
		}
		if text, e := print.Call(api.Call{Action: name, Args: []api.Bits{n(9)}}); text != name+"(9)" || e != api.OK {
			t.Errorf("%q: %d %q", name, e, text)
		}
	}
}

func TestCallArguments(t *testing.T) {
	r := rand.New(rand.NewSource(2))
	for count := range 12 {
		for range 100 {
			c := api.Call{Action: "f"}
			var texts []string
			for range count {
				a := api.Bits{Hi: r.Uint64() * uint64(r.Intn(2)), Lo: r.Uint64() >> r.Intn(65)}
				c.Args = append(c.Args, a)
				texts = append(texts, modelValue(a))
			}
			text, e := print.Call(c)
			if count > 8 {
				if text != "" || e != api.ErrMany {
					t.Fatalf("%d arguments: %d %q", count, e, text)
				}
				continue
			}
			if want := "f(" + strings.Join(texts, ", ") + ")"; text != want || e != api.OK {
				t.Fatalf("%d %q; want %q", e, text, want)
			}
		}
	}
	for _, count := range []int{9, 10, 16, 255, 256, 257, 1 << 20} {
		if text, e := print.Call(api.Call{Action: "f", Args: make([]api.Bits, count)}); text != "" || e != api.ErrMany {
			t.Errorf("%d arguments: %d %.40q", count, e, text)
		}
	}
	if text, e := print.Call(api.Call{}); text != "" || e != api.ErrName {
		t.Errorf("the zero call: %d %q", e, text)
	}
	if text, e := print.Call(api.Call{Action: "f", Args: []api.Bits{}}); text != "f()" || e != api.OK {
		t.Errorf("an empty list: %d %q", e, text)
	}
}
