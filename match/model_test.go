package match_test

import (
	"encoding/hex"
	"fmt"
	"math/big"
	"regexp"
	"slices"
	"strings"

	"turnout/api"
)

// The model: values are big numbers or texts of noughts and ones; what a match but a range's hits is a text of noughts, ones and stars.

func toBig(a api.Bits) *big.Int {
	hi := new(big.Int).SetUint64(a.Hi)
	return hi.Lsh(hi, 64).Add(hi, new(big.Int).SetUint64(a.Lo))
}

func fromBig(x *big.Int) api.Bits {
	lo := new(big.Int).And(x, toBig(api.Bits{Lo: ^uint64(0)}))
	return api.Bits{Hi: new(big.Int).Rsh(x, 64).Uint64(), Lo: lo.Uint64()}
}

func modelFits(a api.Bits, width int) bool { return toBig(a).BitLen() <= width }

func modelCut(a api.Bits, width int) api.Bits {
	power := new(big.Int).Lsh(big.NewInt(1), uint(width))
	return fromBig(power.Mod(toBig(a), power))
}

func upTo(a, b api.Bits) bool { return toBig(a).Cmp(toBig(b)) <= 0 }

// bitsOf is a value's text of bits, as many as a width, or more, if it doesn't fit.
func bitsOf(a api.Bits, width int) string { return fmt.Sprintf("%0*b", width, toBig(a)) }

// modelTable is the table of a name, with the widths of its key's parts.
func modelTable(s api.Schema, name string) (api.Table, []int) {
	t := s.Tables[slices.IndexFunc(s.Tables, func(t api.Table) bool { return t.Name == name })]
	var widths []int
	for _, key := range t.Keys {
		for _, h := range append(slices.Clone(s.Headers), api.Header{Name: "meta", Fields: s.Meta}) {
			for _, f := range h.Fields {
				if key.Ref == ref(h.Name, f.Name) {
					widths = append(widths, f.Width)
				}
			}
		}
	}
	return t, widths
}

func modelAction(s api.Schema, name string) api.Action {
	return s.Actions[slices.IndexFunc(s.Actions, func(a api.Action) bool { return a.Name == name })]
}

// modelRanked tells whether a table's entries have priorities.
func modelRanked(t api.Table) bool {
	return slices.ContainsFunc(t.Keys, func(k api.Key) bool { return k.Kind == api.Ternary || k.Kind == api.Range })
}

// modelMay goes by the chapter's table.
func modelMay(kind, width int, m api.Match) bool {
	zero := api.Bits{}
	switch kind {
	case api.Exact:
		return modelFits(m.Value, width) && m.Mask == zero && m.Len == 0
	case api.Prefix:
		return modelFits(m.Value, width) && m.Mask == zero && 0 <= m.Len && m.Len <= width && !strings.Contains(bitsOf(m.Value, width)[m.Len:], "1")
	case api.Ternary:
		outside := new(big.Int).AndNot(toBig(m.Value), toBig(m.Mask))
		return modelFits(m.Mask, width) && outside.Sign() == 0 && m.Len == 0
	}
	return modelFits(m.Mask, width) && upTo(m.Value, m.Mask) && m.Len == 0
}

// modelWho is the error of an entry's matches and priority.
func modelWho(s api.Schema, table string, e api.Entry) api.Errno {
	t, widths := modelTable(s, table)
	if len(e.Match) != len(t.Keys) {
		return api.ErrKey
	}
	for i, m := range e.Match {
		if !modelMay(t.Keys[i].Kind, widths[i], m) {
			return api.ErrKey
		}
	}
	if !modelRanked(t) && e.Priority != 0 || modelRanked(t) && (e.Priority < 1 || e.Priority > 16777216) {
		return api.ErrPriority
	}
	return api.OK
}

// modelRight is the error of an entry.
func modelRight(s api.Schema, table string, e api.Entry) api.Errno {
	if code := modelWho(s, table, e); code != api.OK {
		return code
	}
	t, _ := modelTable(s, table)
	if !slices.Contains(t.Actions, e.Call.Action) {
		return api.ErrAction
	}
	params := modelAction(s, e.Call.Action).Params
	if len(params) != len(e.Call.Args) {
		return api.ErrArgs
	}
	for i, p := range params {
		if !modelFits(e.Call.Args[i], p.Width) {
			return api.ErrArgs
		}
	}
	return api.OK
}

// pattern is what a match that may be, but a range's, hits: a star where a bit is free.
func pattern(kind, width int, m api.Match) string {
	out := []byte(bitsOf(m.Value, width))
	mask := bitsOf(m.Mask, width)
	for i := range out {
		if kind == api.Prefix && i >= m.Len || kind == api.Ternary && mask[i] == '0' {
			out[i] = '*'
		}
	}
	return string(out)
}

// modelHit tells whether a match that may be hits a value that fits.
func modelHit(kind, width int, m api.Match, a api.Bits) bool {
	if kind == api.Range {
		return upTo(m.Value, a) && upTo(a, m.Mask)
	}
	return modelCover(kind, width, m, api.Match{Value: a, Mask: modelCut(most, width), Len: width})
}

// modelCover and modelMeet tell it of two matches that may be.
func modelCover(kind, width int, a, b api.Match) bool {
	if kind == api.Range {
		return upTo(a.Value, b.Value) && upTo(b.Mask, a.Mask)
	}
	one, other := pattern(kind, width, a), pattern(kind, width, b)
	for i := range one {
		if one[i] != '*' && one[i] != other[i] {
			return false
		}
	}
	return true
}

func modelMeet(kind, width int, a, b api.Match) bool {
	if kind == api.Range {
		later, earlier := a.Value, a.Mask
		if upTo(later, b.Value) {
			later = b.Value
		}
		if upTo(b.Mask, earlier) {
			earlier = b.Mask
		}
		return upTo(later, earlier)
	}
	one, other := pattern(kind, width, a), pattern(kind, width, b)
	for i := range one {
		if one[i] != '*' && other[i] != '*' && one[i] != other[i] {
			return false
		}
	}
	return true
}

// modelHits tells whether an entry hits a key, whatever they are.
func modelHits(s api.Schema, table string, e api.Entry, key []api.Bits) bool {
	t, widths := modelTable(s, table)
	if modelWho(s, table, e) != api.OK || len(key) != len(t.Keys) {
		return false
	}
	for i, a := range key {
		if !modelFits(a, widths[i]) || !modelHit(t.Keys[i].Kind, widths[i], e.Match[i], a) {
			return false
		}
	}
	return true
}

// modelBoth tells whether two entries may be, and something holds of each two of their matches.
func modelBoth(s api.Schema, table string, a, b api.Entry, holds func(kind, width int, a, b api.Match) bool) bool {
	t, widths := modelTable(s, table)
	if modelWho(s, table, a) != api.OK || modelWho(s, table, b) != api.OK {
		return false
	}
	for i, k := range t.Keys {
		if !holds(k.Kind, widths[i], a.Match[i], b.Match[i]) {
			return false
		}
	}
	return true
}

// modelOrder goes by a list of numbers of each entry, the lesser one ahead; a row that ends is ahead of one that goes on.
func modelOrder(a, b api.Entry) int {
	row := func(e api.Entry) []*big.Int {
		list := []*big.Int{new(big.Int).Neg(big.NewInt(int64(e.Priority)))}
		for _, m := range e.Match {
			list = append(list, new(big.Int).Neg(big.NewInt(int64(m.Len))), toBig(m.Value), toBig(m.Mask))
		}
		return list
	}
	one, other := row(a), row(b)
	for i := 0; i < len(one) && i < len(other); i++ {
		if c := one[i].Cmp(other[i]); c != 0 {
			return c
		}
	}
	switch {
	case len(one) < len(other):
		return -1
	case len(one) > len(other):
		return 1
	}
	return 0
}

// modelBest goes by who hits, and by whom nobody stands ahead of.
func modelBest(s api.Schema, table string, l []api.Entry, key []api.Bits) int {
	for i, e := range l {
		first := modelHits(s, table, e, key)
		for k, o := range l {
			if c := modelOrder(o, e); first && (c < 0 || c == 0 && k < i) && modelHits(s, table, o, key) {
				first = false
			}
		}
		if first {
			return i
		}
	}
	return -1
}

func modelHex(a api.Bits) string { return fmt.Sprintf("%#x", toBig(a)) }

// modelWhoText and modelText are those of a right entry.
func modelWhoText(s api.Schema, table string, e api.Entry) string {
	t, _ := modelTable(s, table)
	out := ""
	for i, m := range e.Match {
		if i > 0 {
			out += ", "
		}
		out += modelHex(m.Value)
		switch t.Keys[i].Kind {
		case api.Prefix:
			out += fmt.Sprintf("/%d", m.Len)
		case api.Ternary:
			out += "&" + modelHex(m.Mask)
		case api.Range:
			out += ".." + modelHex(m.Mask)
		}
	}
	if modelRanked(t) {
		out += fmt.Sprintf(" @ %d", e.Priority)
	}
	return out
}

func modelText(s api.Schema, table string, e api.Entry) string {
	var args []string
	for _, a := range e.Call.Args {
		args = append(args, modelHex(a))
	}
	return modelWhoText(s, table, e) + " -> " + e.Call.Action + "(" + strings.Join(args, ", ") + ")"
}

const (
	sixteens = `0x(0|[1-9a-f][0-9a-f]*)`
	tens     = `(0|[1-9][0-9]*)`
)

// modelWhoForm is the form of a table's entries' texts, but for their calls; each number is a group.
func modelWhoForm(t api.Table) string {
	var parts []string
	for _, k := range t.Keys {
		parts = append(parts, sixteens+[]string{"", "", "/" + tens, "&" + sixteens, `\.\.` + sixteens}[k.Kind])
	}
	form := strings.Join(parts, ", ")
	if modelRanked(t) {
		form += " @ " + tens
	}
	return form
}

// modelReadWho is the entry that the numbers of such a form say; which numbers are left.
func modelReadWho(t api.Table, numbers []string) (api.Entry, []string, bool) {
	ok := true
	next := func(base int) *big.Int {
		x, _ := new(big.Int).SetString(numbers[0], base)
		numbers = numbers[1:]
		ok = ok && x.BitLen() <= 128
		return x
	}
	count := func() int {
		x := next(10)
		ok = ok && x.IsInt64()
		return int(x.Int64())
	}
	var e api.Entry
	for _, k := range t.Keys {
		m := api.Match{Value: fromBig(next(16))}
		switch k.Kind {
		case api.Prefix:
			m.Len = count()
		case api.Ternary, api.Range:
			m.Mask = fromBig(next(16))
		}
		e.Match = append(e.Match, m)
	}
	if modelRanked(t) {
		e.Priority = count()
	}
	return e, numbers, ok
}

// modelParseWho is the entry whose text it is, by its form and by who may be.
func modelParseWho(s api.Schema, table, text string) (api.Entry, bool) {
	t, _ := modelTable(s, table)
	found := regexp.MustCompile("^" + modelWhoForm(t) + `$`).FindStringSubmatch(text)
	if found == nil {
		return api.Entry{}, false
	}
	e, _, ok := modelReadWho(t, found[1:])
	if !ok || modelWho(s, table, e) != api.OK {
		return api.Entry{}, false
	}
	return e, true
}

// modelParse likewise, action by action.
func modelParse(s api.Schema, table, text string) (api.Entry, bool) {
	t, _ := modelTable(s, table)
	for _, name := range t.Actions {
		var args []string
		for range modelAction(s, name).Params {
			args = append(args, sixteens)
		}
		form := "^" + modelWhoForm(t) + " -> " + name + `\(` + strings.Join(args, ", ") + `\)$`
		found := regexp.MustCompile(form).FindStringSubmatch(text)
		if found == nil {
			continue
		}
		e, left, ok := modelReadWho(t, found[1:])
		e.Call.Action = name
		for _, number := range left {
			x, _ := new(big.Int).SetString(number, 16)
			ok = ok && x.BitLen() <= 128
			e.Call.Args = append(e.Call.Args, fromBig(x))
		}
		if ok && modelRight(s, table, e) == api.OK {
			return e, true
		}
	}
	return api.Entry{}, false
}

// modelBytes are a number's, of a width, as sixteens.
func modelBytes(x *big.Int, width int) string { return fmt.Sprintf("%0*x", 2*((width+7)/8), x) }

// modelPackWho and modelPack are the bytes of a right entry.
func modelPackWho(s api.Schema, table string, e api.Entry) string {
	t, widths := modelTable(s, table)
	out := ""
	for i, m := range e.Match {
		out += modelBytes(toBig(m.Value), widths[i])
		switch t.Keys[i].Kind {
		case api.Prefix:
			out += fmt.Sprintf("%02x", m.Len)
		case api.Ternary, api.Range:
			out += modelBytes(toBig(m.Mask), widths[i])
		}
	}
	if modelRanked(t) {
		out += fmt.Sprintf("%08x", e.Priority)
	}
	b, _ := hex.DecodeString(out)
	return string(b)
}

func modelPack(s api.Schema, table string, e api.Entry) string {
	t, _ := modelTable(s, table)
	out := fmt.Sprintf("%02x", slices.Index(t.Actions, e.Call.Action))
	for i, p := range modelAction(s, e.Call.Action).Params {
		out += modelBytes(toBig(e.Call.Args[i]), p.Width)
	}
	b, _ := hex.DecodeString(out)
	return modelPackWho(s, table, e) + string(b)
}

// modelUnpackWho is the entry whose bytes they are: they are cut as the table's parts are wide. What is left stands behind it.
func modelUnpackWho(s api.Schema, table, b string) (api.Entry, string, bool) {
	t, widths := modelTable(s, table)
	short := false
	next := func(width int) *big.Int {
		size := (width + 7) / 8
		if len(b) < size {
			short = true
			return new(big.Int)
		}
		x := new(big.Int).SetBytes([]byte(b[:size]))
		b = b[size:]
		return x
	}
	var e api.Entry
	for i, k := range t.Keys {
		m := api.Match{Value: fromBig(next(widths[i]))}
		switch k.Kind {
		case api.Prefix:
			m.Len = int(next(8).Int64())
		case api.Ternary, api.Range:
			m.Mask = fromBig(next(widths[i]))
		}
		e.Match = append(e.Match, m)
	}
	if modelRanked(t) {
		e.Priority = int(next(32).Int64())
	}
	if short || modelWho(s, table, e) != api.OK {
		return api.Entry{}, "", false
	}
	return e, b, true
}

// modelUnpack likewise.
func modelUnpack(s api.Schema, table, b string) (api.Entry, bool) {
	e, left, ok := modelUnpackWho(s, table, b)
	t, _ := modelTable(s, table)
	if !ok || left == "" || int(left[0]) >= len(t.Actions) {
		return api.Entry{}, false
	}
	e.Call.Action = t.Actions[left[0]]
	left = left[1:]
	for _, p := range modelAction(s, e.Call.Action).Params {
		size := (p.Width + 7) / 8
		if len(left) < size {
			return api.Entry{}, false
		}
		e.Call.Args = append(e.Call.Args, fromBig(new(big.Int).SetBytes([]byte(left[:size]))))
		left = left[size:]
	}
	if left != "" || modelRight(s, table, e) != api.OK {
		return api.Entry{}, false
	}
	return e, true
}

// modelSizes are WhoSize and Size, of the entry of noughts with each action.
func modelSizes(s api.Schema, table string) (int, int) {
	t, _ := modelTable(s, table)
	e := api.Entry{Match: make([]api.Match, len(t.Keys)), Priority: 1}
	who, whole := len(modelPackWho(s, table, e)), 0
	for _, name := range t.Actions {
		e.Call = api.Call{Action: name, Args: make([]api.Bits, len(modelAction(s, name).Params))}
		whole = max(whole, len(modelPack(s, table, e)))
	}
	return who, whole
}
