package query

import (
	"strings"

	"aqueduct/api"
	"aqueduct/expr"
	"aqueduct/path"
)

// reader reads clauses from the front to the end, so that the error that is told is the first one. The clauses share the memory of the value that is read.
type reader struct {
	paths [][]string // those that were read
	fails bool       // an expression was read
}

func (r *reader) query(v api.Value) (clause, api.Errno) {
	if v.Kind != api.Doc {
		return nil, api.ErrQuery
	}
	var l every
	for _, f := range v.F {
		c, e := r.field(f.Name, f.V)
		if e != api.OK {
			return nil, e
		}
		l = append(l, c)
	}
	return l, api.OK
}

func (r *reader) field(name string, v api.Value) (clause, api.Errno) {
	switch {
	case name == "$expr":
		return r.expression(v)
	case isOperator(name):
		return r.junction(name, v)
	}
	return r.place(name, v)
}

// isOperator is asked of names that may be operators; others are paths.
func isOperator(name string) bool { return strings.HasPrefix(name, "$") }

func (r *reader) expression(v api.Value) (clause, api.Errno) {
	x, e := expr.Parse(v)
	if e != api.OK {
		return nil, e
	}
	r.paths = append(r.paths, x.Paths()...)
	r.fails = true
	return truth{x}, api.OK
}

// junction reads what is asked of several queries.
func (r *reader) junction(name string, v api.Value) (clause, api.Errno) {
	switch name {
	case "$and":
		l, e := r.queries(v)
		return every(l), e
	case "$or":
		l, e := r.queries(v)
		return some(l), e
	case "$nor":
		l, e := r.queries(v)
		return neither(l), e
	}
	return nil, api.ErrQuery
}

func (r *reader) queries(v api.Value) ([]clause, api.Errno) {
	if v.Kind != api.List || len(v.L) == 0 {
		return nil, api.ErrQuery
	}
	var l []clause
	for _, x := range v.L {
		q, e := r.query(x)
		if e != api.OK {
			return nil, e
		}
		l = append(l, q)
	}
	return l, api.OK
}

func (r *reader) place(name string, v api.Value) (clause, api.Errno) {
	p, ok := path.Parse(name)
	if !ok {
		return nil, api.ErrName
	}
	r.paths = append(r.paths, p)
	l, e := conditionsAt(v)
	return place{path: p, asked: l}, e
}

// conditionsAt reads what is asked at a path. A Doc is taken as conditions for its first field's name alone; any other value is read as $eq of it, so that it takes what $eq takes.
func conditionsAt(v api.Value) (conditions, api.Errno) {
	if v.Kind == api.Doc && len(v.F) > 0 && isOperator(v.F[0].Name) {
		return conditionsOf(v)
	}
	c := conditionOf("$eq", v)
	if c == nil {
		return nil, api.ErrQuery
	}
	return conditions{c}, api.OK
}

// conditionsOf reads a Doc of conditions, one at least.
func conditionsOf(v api.Value) (conditions, api.Errno) {
	if v.Kind != api.Doc || len(v.F) == 0 {
		return nil, api.ErrQuery
	}
	var l conditions
	for _, f := range v.F {
		c := conditionOf(f.Name, f.V)
		if c == nil {
			return nil, api.ErrQuery
		}
		l = append(l, c)
	}
	return l, api.OK
}
