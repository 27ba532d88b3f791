package expr

import (
	"aqueduct/api"
	"aqueduct/order"
)

// place is what order.Compare says of two: where the first one stands beside the second.
type place int

func (p place) isAlike() bool   { return p == 0 }
func (p place) isUnlike() bool  { return p != 0 }
func (p place) isBehind() bool  { return p > 0 }
func (p place) notAhead() bool  { return p >= 0 }
func (p place) isAhead() bool   { return p < 0 }
func (p place) notBehind() bool { return p <= 0 }

func (c call) eq(d api.Value) (api.Value, api.Errno)  { return c.compare(d, place.isAlike) }
func (c call) ne(d api.Value) (api.Value, api.Errno)  { return c.compare(d, place.isUnlike) }
func (c call) gt(d api.Value) (api.Value, api.Errno)  { return c.compare(d, place.isBehind) }
func (c call) gte(d api.Value) (api.Value, api.Errno) { return c.compare(d, place.notAhead) }
func (c call) lt(d api.Value) (api.Value, api.Errno)  { return c.compare(d, place.isAhead) }
func (c call) lte(d api.Value) (api.Value, api.Errno) { return c.compare(d, place.notBehind) }

func (c call) cmp(d api.Value) (api.Value, api.Errno) {
	p, e := c.place(d)
	if e != api.OK {
		return api.Value{}, e
	}
	return api.Value{Kind: api.Int32, N: int64(p)}, api.OK
}

func (c call) compare(d api.Value, holds func(place) bool) (api.Value, api.Errno) {
	p, e := c.place(d)
	if e != api.OK {
		return api.Value{}, e
	}
	return boolean(holds(p)), api.OK
}

func (c call) place(d api.Value) (place, api.Errno) {
	l, e := evalAll(c.terms, d)
	if e != api.OK {
		return 0, e
	}
	return place(order.Compare(l[0], l[1])), api.OK
}
