package expr

import (
	"slices"
	"strings"

	"aqueduct/api"
	"aqueduct/order"
	"aqueduct/path"
)

// dollar begins a path, and an operator's name.
const dollar = "$"

// reader reads terms from the front to the end, so that the error that is told is the first one. The terms share the memory of the value that is read.
type reader struct {
	paths [][]string // those that were read
}

func (r *reader) term(v api.Value) (term, api.Errno) {
	switch v.Kind {
	case api.Text:
		return r.text(v)
	case api.Doc:
		return r.doc(v.F)
	case api.List:
		l, e := r.terms(v.L)
		if e != api.OK {
			return nil, e
		}
		return row(l), api.OK
	}
	if v.Kind == api.Missing || order.Class(v.Kind) < 0 {
		return nil, api.ErrType
	}
	return constant{v}, api.OK
}

func (r *reader) terms(values []api.Value) ([]term, api.Errno) {
	var l []term
	for _, v := range values {
		t, e := r.term(v)
		if e != api.OK {
			return nil, e
		}
		l = append(l, t)
	}
	return l, api.OK
}

func (r *reader) text(v api.Value) (term, api.Errno) {
	s, ok := strings.CutPrefix(v.S, dollar)
	if !ok {
		return constant{v}, api.OK
	}
	p, ok := path.Parse(s)
	if !ok {
		return nil, api.ErrName
	}
	r.paths = append(r.paths, p)
	return reach(p), api.OK
}

func (r *reader) doc(fields []api.Field) (term, api.Errno) {
	if !slices.ContainsFunc(fields, isOperator) {
		return r.document(fields)
	}
	if len(fields) > 1 {
		return nil, api.ErrQuery
	}
	return r.operation(fields[0].Name, fields[0].V)
}

func isOperator(f api.Field) bool { return strings.HasPrefix(f.Name, dollar) }

func (r *reader) document(fields []api.Field) (term, api.Errno) {
	var l document
	for _, f := range fields {
		t, e := r.term(f.V)
		if e != api.OK {
			return nil, e
		}
		l = append(l, part{name: f.Name, t: t})
	}
	return l, api.OK
}

// operation reads what is done with v. What a literal has is no List of arguments either: it is taken as it is.
func (r *reader) operation(name string, v api.Value) (term, api.Errno) {
	if name == "$literal" {
		return constant{v}, api.OK
	}
	do, many := operatorOf(name)
	if do == nil {
		return nil, api.ErrQuery
	}
	arguments := argumentsOf(v)
	if many != anyNumber && many != len(arguments) {
		return nil, api.ErrQuery
	}
	l, e := r.terms(arguments)
	if e != api.OK {
		return nil, e
	}
	return call{do: do, terms: l}, api.OK
}

func argumentsOf(v api.Value) []api.Value {
	if v.Kind == api.List {
		return v.L
	}
	return []api.Value{v}
}
