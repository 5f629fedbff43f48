package schema_test

import (
	"math"
	"reflect"
	"slices"
	"testing"

	"turnout/api"
	"turnout/schema"
)

// P7.3, P7.4

// double is a schema that is not sound: its names stand there twice, and headers are called as the metadata, and nothing.
func double() api.Schema {
	return api.Schema{
		Headers: []api.Header{
			{Name: "", Fields: []api.Field{{Name: "a", Width: 1}, {Name: "", Width: 2}}},
			{Name: "meta", Fields: []api.Field{{Name: "a", Width: 3}, {Name: "m", Width: 4}}},
			{Name: "h", Fields: []api.Field{{Name: "a", Width: 5}, {Name: "a", Width: 6}, {Name: "b", Width: 0}, {Name: "b", Width: 7}, {Name: "c", Width: 129}, {Name: "d", Width: -1}, {Name: "e", Width: 128}, {Name: "", Width: 9}, {Name: "X Y", Width: 10}}},
			{Name: "h", Fields: []api.Field{{Name: "a", Width: 11}, {Name: "z", Width: 12}}},
			{Name: "empty"},
			{Name: "Very Odd", Fields: []api.Field{{Name: "a", Width: 13}}},
		},
		Meta: []api.Field{{Name: "a", Width: 14}, {Name: "a", Width: 15}, {Name: "", Width: 16}, {Name: "w", Width: math.MaxInt}, {Name: "w", Width: 17}},
		Actions: []api.Action{
			{Name: "f", Params: []api.Field{{Name: "p", Width: 4}}},
			{Name: "f", Params: []api.Field{{Name: "p", Width: 9}, {Name: "q", Width: 9}}},
			{Name: ""},
			{Name: "odd", Params: []api.Field{{Name: "p", Width: 0}}},
			{Name: "wide", Params: []api.Field{{Name: "p", Width: 129}, {Name: "p", Width: 128}}},
			{Name: "two", Params: []api.Field{{Name: "p", Width: 128}, {Name: "p", Width: 1}}},
		},
		Tables: []api.Table{
			{Name: "t", Keys: []api.Key{{Ref: ref("h", "a")}, {Ref: ref("h", "a")}, {Ref: ref("meta", "a")}, {Ref: ref("meta", "m")}, {Ref: ref("", "a")}, {Ref: ref("h", "b")}}, Actions: []string{"f", "gone", "odd", "wide", "", "two"}},
			{Name: "t", Keys: []api.Key{{Ref: ref("h", "e")}}, Actions: []string{"other"}},
			{Name: "", Actions: []string{"f"}},
			{Name: "none", Size: -3, Fixed: true},
		},
	}
}

// checkFound holds the calls of this section against what is found one by one.
func checkFound(t *testing.T, s api.Schema, name string) {
	t.Helper()
	first := func(count int, called func(int) string) int {
		for i := range count {
			if called(i) == name {
				return i
			}
		}
		return -1
	}
	h, ok := schema.Header(s, name)
	if i := first(len(s.Headers), func(i int) string { return s.Headers[i].Name }); i < 0 && (ok || !reflect.DeepEqual(h, api.Header{})) || i >= 0 && (!ok || !alikePlain(h, s.Headers[i])) {
		t.Fatalf("Header(%q): %v, %v", name, h, ok)
	}
	a, ok := schema.Action(s, name)
	if i := first(len(s.Actions), func(i int) string { return s.Actions[i].Name }); i < 0 && (ok || !reflect.DeepEqual(a, api.Action{})) || i >= 0 && (!ok || !alikePlain(a, s.Actions[i])) {
		t.Fatalf("Action(%q): %v, %v", name, a, ok)
	}
	x, at, ok := schema.Table(s, name)
	i := first(len(s.Tables), func(i int) string { return s.Tables[i].Name })
	if i < 0 && (ok || at != 0 || !reflect.DeepEqual(x, api.Table{})) || i >= 0 && (!ok || at != i || !alikePlain(x, s.Tables[i])) {
		t.Fatalf("Table(%q): %v, %d, %v", name, x, at, ok)
	}
	widths, e := schema.Widths(s, name)
	if i < 0 {
		if e != api.ErrTable || len(widths) > 0 {
			t.Fatalf("Widths(%q): %v, %d", name, widths, e)
		}
		return
	}
	var want []int
	for _, k := range s.Tables[i].Keys {
		want = append(want, modelWidth(s, k.Ref))
	}
	if e != api.OK || !slices.Equal(widths, want) {
		t.Fatalf("Widths(%q): %v, %d; want %v", name, widths, e, want)
	}
}

func TestFound(t *testing.T) {
	for _, s := range []api.Schema{{}, sample(), double()} {
		for _, name := range []string{"", "meta", "h", "eth", "ip", "f", "out", "hop", "odd", "t", "route", "acl", "mac", "none", "empty", "Very Odd", "x", "T", "eth ", "control"} {
			checkFound(t, s, name)
		}
	}
	s := double()
	if h, ok := schema.Header(s, "h"); !ok || h.Fields[0].Width != 5 || len(h.Fields) != 9 {
		t.Errorf("the first header h: %v, %v", h, ok)
	}
	if h, ok := schema.Header(s, "meta"); !ok || len(h.Fields) != 2 {
		t.Errorf("the header meta: %v, %v", h, ok)
	}
	if h, ok := schema.Header(s, ""); !ok || len(h.Fields) != 2 {
		t.Errorf("the header that is called nothing: %v, %v", h, ok)
	}
	if a, ok := schema.Action(s, "f"); !ok || len(a.Params) != 1 {
		t.Errorf("the first action f: %v, %v", a, ok)
	}
	if x, at, ok := schema.Table(s, "t"); !ok || at != 0 || len(x.Keys) != 6 {
		t.Errorf("the first table t: %v, %d, %v", x, at, ok)
	}
	if x, at, ok := schema.Table(s, "none"); !ok || at != 3 || x.Size != -3 || !x.Fixed {
		t.Errorf("the last table: %v, %d, %v", x, at, ok)
	}
	if x, at, ok := schema.Table(sample(), "x"); ok || at != 0 || x.Name != "" {
		t.Errorf("no table: %v, %d, %v", x, at, ok)
	}
}

func TestWidth(t *testing.T) {
	for r, want := range map[api.Ref]int{
		ref("h", "a"): 5, ref("h", "b"): 0, ref("h", "c"): 0, ref("h", "d"): 0, ref("h", "e"): 128, ref("h", ""): 9, ref("h", "X Y"): 10, ref("h", "z"): 0,
		ref("meta", "a"): 14, ref("meta", "m"): 0, ref("meta", ""): 16, ref("meta", "w"): 0,
		ref("", "a"): 0, ref("", ""): 0, ref("", "p"): 0, ref("empty", "a"): 0, ref("x", "a"): 0, ref("Very Odd", "a"): 13, ref("H", "a"): 0,
	} {
		if got := schema.Width(double(), r); got != want || modelWidth(double(), r) != want {
			t.Errorf("Width of %v: %d; want %d", r, got, want)
		}
	}
	for width := -3; width < 140; width++ {
		s := api.Schema{Headers: []api.Header{{Name: "h", Fields: []api.Field{{Name: "f", Width: width}}}}, Meta: []api.Field{{Name: "g", Width: width}}}
		want := width
		if width < 1 || width > 128 {
			want = 0
		}
		if got, meta := schema.Width(s, ref("h", "f")), schema.Width(s, ref("meta", "g")); got != want || meta != want {
			t.Errorf("Width of %d bits: %d, %d", width, got, meta)
		}
	}
}

func TestWidths(t *testing.T) {
	for name, want := range map[string][]int{"route": {32, 8}, "acl": {9, 48}, "mac": {48}} {
		if got, e := schema.Widths(sample(), name); e != api.OK || !slices.Equal(got, want) {
			t.Errorf("Widths(%q): %v, %d", name, got, e)
		}
	}
	if got, e := schema.Widths(double(), "t"); e != api.OK || !slices.Equal(got, []int{5, 5, 14, 0, 0, 0}) {
		t.Errorf("Widths of names that stand twice: %v, %d", got, e)
	}
	if got, e := schema.Widths(double(), "none"); e != api.OK || len(got) > 0 {
		t.Errorf("Widths without keys: %v, %d", got, e)
	}
	for _, name := range []string{"x", "out", "Route", "meta"} {
		if got, e := schema.Widths(double(), name); e != api.ErrTable || len(got) > 0 {
			t.Errorf("Widths(%q): %v, %d", name, got, e)
		}
	}
}

func TestKind(t *testing.T) {
	// modelKind: by the kinds that are there.
	modelKind := func(kinds []int) int {
		switch {
		case slices.Contains(kinds, api.Ternary) || slices.Contains(kinds, api.Range):
			return api.Ternary
		case slices.Contains(kinds, api.Prefix):
			return api.Prefix
		}
		return api.Exact
	}
	all := []int{-1, 0, api.Exact, api.Prefix, api.Ternary, api.Range, 5}
	for _, a := range all {
		for _, b := range all {
			for _, c := range all {
				kinds := []int{a, b, c}
				for size := range 4 {
					x := api.Table{Size: -1}
					for _, kind := range kinds[:size] {
						x.Keys = append(x.Keys, api.Key{Kind: kind})
					}
					if got, want := schema.Kind(x), modelKind(kinds[:size]); got != want {
						t.Errorf("Kind of %v: %d; want %d", kinds[:size], got, want)
					}
				}
			}
		}
	}
	for i, want := range []int{api.Prefix, api.Ternary, api.Exact} {
		if got := schema.Kind(sample().Tables[i]); got != want {
			t.Errorf("Kind of the table %d: %d", i, got)
		}
	}
	if got := schema.Kind(api.Table{}); got != api.Exact {
		t.Errorf("Kind of no keys: %d", got)
	}
}

func TestCall(t *testing.T) {
	list := func(values ...uint64) []api.Bits {
		var l []api.Bits
		for _, x := range values {
			l = append(l, n(x))
		}
		return l
	}
	huge := api.Bits{Hi: math.MaxUint64, Lo: math.MaxUint64}
	for _, x := range []struct {
		s      api.Schema
		table  string
		action string
		args   []api.Bits
		want   api.Errno
	}{
		{sample(), "route", "none", nil, api.OK},
		{sample(), "route", "none", []api.Bits{}, api.OK},
		{sample(), "route", "out", list(511), api.OK},
		{sample(), "route", "out", list(512), api.ErrArgs},
		{sample(), "route", "out", nil, api.ErrArgs},
		{sample(), "route", "out", list(1, 1), api.ErrArgs},
		{sample(), "route", "hop", list(1<<48-1, 1<<32-1), api.OK},
		{sample(), "route", "hop", list(1<<48, 0), api.ErrArgs},
		{sample(), "route", "hop", list(0, 1<<32), api.ErrArgs},
		{sample(), "route", "grow", nil, api.ErrAction},
		{sample(), "route", "", nil, api.ErrAction},
		{sample(), "mac", "none", nil, api.ErrAction},
		{sample(), "x", "none", nil, api.ErrTable},
		{sample(), "x", "x", list(1), api.ErrTable},
		{sample(), "", "", nil, api.ErrTable},
		{api.Schema{}, "", "", nil, api.ErrTable},
		{double(), "t", "f", list(15), api.OK},
		{double(), "t", "f", list(16), api.ErrArgs},
		{double(), "t", "f", list(1, 1), api.ErrArgs},
		{double(), "t", "gone", nil, api.ErrAction},
		{double(), "t", "other", nil, api.ErrAction},
		{double(), "t", "odd", list(0), api.ErrArgs},
		{double(), "t", "odd", nil, api.ErrArgs},
		{double(), "t", "wide", list(0, 0), api.ErrArgs},
		{double(), "t", "two", []api.Bits{huge, n(1)}, api.OK},
		{double(), "t", "two", []api.Bits{huge, n(2)}, api.ErrArgs},
		{double(), "t", "", nil, api.OK},
		{double(), "", "f", list(15), api.OK},
		{double(), "", "two", nil, api.ErrAction},
		{double(), "none", "f", list(1), api.ErrAction},
	} {
		c := api.Call{Action: x.action, Args: x.args}
		if got := schema.Call(x.s, x.table, c); got != x.want || modelCall(x.s, x.table, c) != x.want {
			t.Errorf("Call(%q, %v): %d; want %d", x.table, c, got, x.want)
		}
	}
}

// TestDrawnFound: of any schema what is found is what the model finds.
func TestDrawnFound(t *testing.T) {
	drawnSchemas(3, 4000, func(s api.Schema) {
		all := texts(reflect.ValueOf(s))
		for i, name := range append(all, "", "meta", "x") {
			checkFound(t, s, name)
			for _, r := range []api.Ref{ref(name, "a1"), ref("meta", name), ref("eth", name), ref("", name), ref(name, all[i%len(all)])} {
				if got, want := schema.Width(s, r), modelWidth(s, r); got != want {
					t.Fatalf("Width of %v: %d; want %d: %s", r, got, want, short(s))
				}
			}
		}
		for _, x := range s.Tables {
			for _, a := range append(s.Actions, api.Action{Name: "x"}, api.Action{}) {
				c := x.Default
				for _, c.Action = range []string{a.Name, x.Default.Action} {
					if got, want := schema.Call(s, x.Name, c), modelCall(s, x.Name, c); got != want {
						t.Fatalf("Call(%q, %v): %d; want %d: %s", x.Name, c, got, want, short(s))
					}
				}
			}
		}
	})
}

// texts are all texts in a value, each once, and at least one.
func texts(v reflect.Value) []string {
	list := []string{"a"}
	var gather func(reflect.Value)
	gather = func(v reflect.Value) {
		switch v.Kind() {
		case reflect.String:
			if !slices.Contains(list, v.String()) {
				list = append(list, v.String())
			}
		case reflect.Struct:
			for i := range v.NumField() {
				gather(v.Field(i))
			}
		case reflect.Slice:
			for i := range v.Len() {
				gather(v.Index(i))
			}
		}
	}
	gather(v)
	return list
}

// alikePlain tells whether two things of one kind are the same, nil and empty lists being one.
func alikePlain(a, b any) bool {
	return reflect.DeepEqual(deepNil(reflect.ValueOf(a)).Interface(), deepNil(reflect.ValueOf(b)).Interface())
}

// deepNil is a copy of a value whose empty lists are nil.
func deepNil(v reflect.Value) reflect.Value {
	out := reflect.New(v.Type()).Elem()
	switch v.Kind() {
	case reflect.Struct:
		for i := range v.NumField() {
			out.Field(i).Set(deepNil(v.Field(i)))
		}
	case reflect.Slice:
		if v.Len() > 0 {
			out.Set(reflect.MakeSlice(v.Type(), v.Len(), v.Len()))
		}
		for i := range v.Len() {
			out.Index(i).Set(deepNil(v.Index(i)))
		}
	default:
		out.Set(v)
	}
	return out
}
