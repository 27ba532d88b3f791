package expr

import (
	"aqueduct/api"
	"aqueduct/num"
)

// Operators of numbers: all arguments are reckoned ahead of what is done with them.

// reckoning is what num does with two values.
type reckoning func(a, b api.Value) (api.Value, api.Errno)

func (c call) add(d api.Value) (api.Value, api.Errno)      { return c.fold(d, num.Of(0), num.Add) }
func (c call) multiply(d api.Value) (api.Value, api.Errno) { return c.fold(d, num.Of(1), num.Mul) }

func (c call) subtract(d api.Value) (api.Value, api.Errno) { return c.reckon(d, num.Sub) }
func (c call) divide(d api.Value) (api.Value, api.Errno)   { return c.reckon(d, num.Div) }
func (c call) mod(d api.Value) (api.Value, api.Errno)      { return c.reckon(d, num.Mod) }

func (c call) abs(d api.Value) (api.Value, api.Errno) {
	v, e := c.terms[0].eval(d)
	if e != api.OK {
		return api.Value{}, e
	}
	return num.Abs(v)
}

// fold reckons one argument after another with what those ahead of it came to.
func (c call) fold(d, first api.Value, do reckoning) (api.Value, api.Errno) {
	l, e := evalAll(c.terms, d)
	if e != api.OK {
		return api.Value{}, e
	}
	result := first
	for _, v := range l {
		if result, e = do(result, v); e != api.OK {
			return api.Value{}, e
		}
	}
	return result, api.OK
}

func (c call) reckon(d api.Value, do reckoning) (api.Value, api.Errno) {
	l, e := evalAll(c.terms, d)
	if e != api.OK {
		return api.Value{}, e
	}
	return do(l[0], l[1])
}
