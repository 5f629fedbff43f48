package match

import (
	"turnout/api"
	"turnout/value"
)

// An asking is what a match asks of a value: it tells whether the match hits it.
type asking func(a api.Bits) bool

// A part is one of a table's key: what its matches do, each function made over the part's width. All but may are handed matches that may be.
type part struct {
	form
	width        int
	may          func(m api.Match) bool
	hits         func(m api.Match) asking
	covers, meet func(a, b api.Match) bool
}

// kinds are what makes a part of a width, by its kind.
func kinds() []func(width int) part {
	return []func(width int) part{
		api.Exact:   exact,
		api.Prefix:  prefix,
		api.Ternary: ternary,
		api.Range:   ranged,
	}
}

// exact: a match hits its Value alone.
func exact(width int) part {
	same := func(a, b api.Match) bool { return a.Value == b.Value }
	return part{
		form:  alone(width),
		width: width,
		may: func(m api.Match) bool {
			return value.Fits(m.Value, width) && m == api.Match{Value: m.Value}
		},
		hits: func(m api.Match) asking {
			return func(a api.Bits) bool { return a == m.Value }
		},
		covers: same,
		meet:   same,
	}
}

// prefix: a match hits what begins as its Value does.
func prefix(width int) part {
	alike := func(a, b api.Bits, bits int) bool { return value.Common(a, b, width) >= bits }
	return part{
		form:  withLen(width),
		width: width,
		may: func(m api.Match) bool {
			ones, e := value.Mask(width, m.Len)
			return e == api.OK && within(m.Value, ones) && m == api.Match{Value: m.Value, Len: m.Len}
		},
		hits: func(m api.Match) asking {
			return func(a api.Bits) bool { return alike(a, m.Value, m.Len) }
		},
		covers: func(a, b api.Match) bool { return a.Len <= b.Len && alike(a.Value, b.Value, a.Len) },
		meet:   func(a, b api.Match) bool { return alike(a.Value, b.Value, min(a.Len, b.Len)) },
	}
}

// ternary: a match hits what has its Value's bits under its Mask.
func ternary(width int) part {
	alike := func(a, b, mask api.Bits) bool { return value.And(a, mask) == value.And(b, mask) }
	return part{
		form:  withMask(width, "&"),
		width: width,
		may: func(m api.Match) bool {
			return value.Fits(m.Mask, width) && within(m.Value, m.Mask) && m.Len == 0
		},
		hits: func(m api.Match) asking {
			return func(a api.Bits) bool { return alike(a, m.Value, m.Mask) }
		},
		covers: func(a, b api.Match) bool { return within(a.Mask, b.Mask) && alike(a.Value, b.Value, a.Mask) },
		meet:   func(a, b api.Match) bool { return alike(a.Value, b.Value, value.And(a.Mask, b.Mask)) },
	}
}

// ranged: a match hits what lies from its Value to its Mask.
func ranged(width int) part {
	upTo := func(a, b api.Bits) bool { return value.Compare(a, b) <= 0 }
	return part{
		form:  withMask(width, ".."),
		width: width,
		may: func(m api.Match) bool {
			return value.Fits(m.Mask, width) && upTo(m.Value, m.Mask) && m.Len == 0
		},
		hits: func(m api.Match) asking {
			return func(a api.Bits) bool { return upTo(m.Value, a) && upTo(a, m.Mask) }
		},
		covers: func(a, b api.Match) bool { return upTo(a.Value, b.Value) && upTo(b.Mask, a.Mask) },
		meet:   func(a, b api.Match) bool { return upTo(a.Value, b.Mask) && upTo(b.Value, a.Mask) },
	}
}

// within tells whether a value is 0 in all bits in which a mask is 0.
func within(a, mask api.Bits) bool { return value.And(a, mask) == a }
