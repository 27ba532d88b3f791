package expr

import "aqueduct/api"

// Operators that reckon no more of their arguments than they need.

func (c call) and(d api.Value) (api.Value, api.Errno) { return c.decide(d, false) }
func (c call) or(d api.Value) (api.Value, api.Errno)  { return c.decide(d, true) }

// decide reckons arguments up to the first one that is as decisive is; the other way round, if none is.
func (c call) decide(d api.Value, decisive bool) (api.Value, api.Errno) {
	for _, t := range c.terms {
		v, e := t.eval(d)
		if e != api.OK {
			return api.Value{}, e
		}
		if True(v) == decisive {
			return boolean(decisive), api.OK
		}
	}
	return boolean(!decisive), api.OK
}

func (c call) not(d api.Value) (api.Value, api.Errno) {
	v, e := c.terms[0].eval(d)
	if e != api.OK {
		return api.Value{}, e
	}
	return boolean(!True(v)), api.OK
}

func (c call) cond(d api.Value) (api.Value, api.Errno) {
	v, e := c.terms[0].eval(d)
	if e != api.OK {
		return api.Value{}, e
	}
	if True(v) {
		return c.terms[1].eval(d)
	}
	return c.terms[2].eval(d)
}

func (c call) ifNull(d api.Value) (api.Value, api.Errno) {
	v, e := c.terms[0].eval(d)
	if e != api.OK {
		return api.Value{}, e
	}
	if isNothing(v) {
		return c.terms[1].eval(d)
	}
	return v, api.OK
}

// True tells what is true: all but Missing, Null, nought and false.
func True(v api.Value) bool {
	switch v.Kind {
	case api.Missing, api.Null:
		return false
	case api.Int32, api.Int64, api.Bool:
		return v.N != 0
	}
	return true
}

func isNothing(v api.Value) bool { return v.Kind == api.Null || v.Kind == api.Missing }

func boolean(b bool) api.Value {
	if b {
		return api.Value{Kind: api.Bool, N: 1}
	}
	return api.Value{Kind: api.Bool}
}
