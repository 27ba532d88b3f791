package accum

import (
	"slices"

	"aqueduct/api"
	"aqueduct/bson"
	"aqueduct/num"
	"aqueduct/order"
)

// Each kind's own Add is here.

func (s *State) sum(v api.Value) api.Errno {
	if !isNumber(v) {
		return api.OK
	}
	n, e := num.Add(s.kept, v)
	if e == api.OK {
		s.keep(n)
	}
	return e
}

func (s *State) least(v api.Value) api.Errno { return s.outermost(v, -1) }

func (s *State) greatest(v api.Value) api.Errno { return s.outermost(v, 1) }

// outermost keeps v where Compare has it on that side of all that came: of alike ones the first stays.
func (s *State) outermost(v api.Value, side int) api.Errno {
	if v.Kind == api.Missing || v.Kind == api.Null {
		return api.OK
	}
	if s.kept.Kind == api.Missing || order.Compare(v, s.kept) == side {
		s.keep(v)
	}
	return api.OK
}

func (s *State) first(v api.Value) api.Errno {
	if s.kept.Kind == api.Missing {
		s.keep(orNull(v))
	}
	return api.OK
}

func (s *State) last(v api.Value) api.Errno {
	s.keep(orNull(v))
	return api.OK
}

func (s *State) push(v api.Value) api.Errno {
	if v.Kind == api.Missing {
		return api.OK
	}
	n := growth(v, len(s.kept.L))
	if n == 0 || aroundOne+s.weight+n > api.MaxBytes {
		return api.ErrLong
	}
	s.kept.L = append(s.kept.L, bson.Copy(v))
	s.weight += n
	return api.OK
}

func (s *State) set(v api.Value) api.Errno {
	at, found := slices.BinarySearchFunc(s.rising, v, s.compareItem)
	if found || v.Kind == api.Missing {
		return api.OK
	}
	place := len(s.kept.L)
	e := s.push(v)
	if e == api.OK {
		s.rising = slices.Insert(s.rising, at, place)
	}
	return e
}

// compareItem holds the item at that place against v.
func (s *State) compareItem(place int, v api.Value) int { return order.Compare(s.kept.L[place], v) }

func (s *State) count(api.Value) api.Errno {
	s.kept = num.Of(s.kept.N + 1)
	return api.OK
}

func isNumber(v api.Value) bool { return v.Kind == api.Int32 || v.Kind == api.Int64 }

func nought() api.Value { return num.Of(0) }

func emptyList() api.Value { return api.Value{Kind: api.List} }

// orNull answers Null of what is Missing.
func orNull(v api.Value) api.Value {
	if v.Kind == api.Missing {
		return api.Value{Kind: api.Null}
	}
	return v
}
