package tern

import (
	"turnout/api"
	"turnout/schema"
	"turnout/value"
)

// A part is one of a table's key.
type part struct {
	kind, width int
	most        api.Bits // the greatest value of the width
}

// partsOf are the parts of the key of a sound schema's table.
func partsOf(s api.Schema, t api.Table) []part {
	var list []part
	for _, k := range t.Keys {
		width := schema.Width(s, k.Ref)
		most, _ := value.Most(width)
		list = append(list, part{k.Kind, width, most})
	}
	return list
}

// A piece is what the shape of an entry is in one part of the key, for each kind in the same form: of a value the bits under mask are left, and it lies from one value to another.
type piece struct{ mask, from, to api.Bits }

// piece is a match's. Of a match that may not be it is any one.
func (p part) piece(m api.Match) piece {
	switch p.kind {
	case api.Prefix:
		first, _ := value.Mask(p.width, m.Len)
		return piece{mask: first, to: p.most}
	case api.Ternary:
		return piece{mask: m.Mask, to: p.most}
	case api.Range:
		return piece{from: m.Value, to: m.Mask}
	default:
		return piece{mask: p.most, to: p.most}
	}
}

// A shape is an entry's: a piece for each part of the key, and zero ones behind them.
type shape [api.MaxKeys]piece

// values are a key's, or what is left of them under a shape; zeros stand behind them.
type values [api.MaxKeys]api.Bits

// takes tells whether a key lies in the ranges of a shape.
func (s *shape) takes(key values) bool {
	for i, p := range s {
		if value.Compare(key[i], p.from) < 0 || value.Compare(key[i], p.to) > 0 {
			return false
		}
	}
	return true
}

// left is what is left of a key under a shape. An entry of the shape hits a key that the shape takes, if of its values the same is left.
func (s *shape) left(key values) values {
	for i, p := range s {
		key[i] = value.And(key[i], p.mask)
	}
	return key
}

// wider tells whether each entry of a shape covers those of another shape of whose values, under its own one, the same is left.
func (s *shape) wider(other *shape) bool {
	for i, p := range s {
		o := other[i]
		if value.And(p.mask, o.mask) != p.mask || value.Compare(p.from, o.from) > 0 || value.Compare(p.to, o.to) < 0 {
			return false
		}
	}
	return true
}
