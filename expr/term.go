package expr

import (
	"aqueduct/api"
	"aqueduct/bson"
	"aqueduct/path"
)

// term is an expression, or one within it. What it answers is in new memory.
type term interface {
	eval(d api.Value) (api.Value, api.Errno)
}

// constant is a value that stands for itself.
type constant struct {
	v api.Value
}

// reach is a path.
type reach []string

// document is a Doc's fields.
type document []part

type part struct {
	name string
	t    term
}

// row is a List's items.
type row []term

// call is an operator with its arguments.
type call struct {
	do    operator
	terms []term
}

// operator is what is done with a call's arguments: a method expression, chosen when the call is read.
type operator func(c call, d api.Value) (api.Value, api.Errno)

func (c constant) eval(api.Value) (api.Value, api.Errno) { return bson.Copy(c.v), api.OK }

func (p reach) eval(d api.Value) (api.Value, api.Errno) { return path.Reach(d, p), api.OK }

func (c call) eval(d api.Value) (api.Value, api.Errno) { return c.do(c, d) }

// eval leaves out what is Missing.
func (l document) eval(d api.Value) (api.Value, api.Errno) {
	made := api.Value{Kind: api.Doc}
	for _, x := range l {
		v, e := x.t.eval(d)
		if e != api.OK {
			return api.Value{}, e
		}
		if v.Kind != api.Missing {
			made.F = append(made.F, api.Field{Name: x.name, V: v})
		}
	}
	return made, api.OK
}

// eval has Null in place of what is Missing.
func (l row) eval(d api.Value) (api.Value, api.Errno) {
	items, e := evalAll(l, d)
	if e != api.OK {
		return api.Value{}, e
	}
	for i, v := range items {
		if v.Kind == api.Missing {
			items[i] = api.Value{Kind: api.Null}
		}
	}
	return api.Value{Kind: api.List, L: items}, api.OK
}

// evalAll reckons all, one behind another.
func evalAll(l []term, d api.Value) ([]api.Value, api.Errno) {
	var values []api.Value
	for _, t := range l {
		v, e := t.eval(d)
		if e != api.OK {
			return nil, e
		}
		values = append(values, v)
	}
	return values, api.OK
}
