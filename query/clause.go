package query

import (
	"aqueduct/api"
	"aqueduct/expr"
	"aqueduct/path"
)

// clause is what a query, or a field of it, asks of a document.
type clause interface {
	holds(d api.Value) (bool, api.Errno)
}

// every asks that all hold: a query's fields, and what $and has.
type every []clause

// some asks that one holds.
type some []clause

// neither asks that none holds.
type neither []clause

// truth asks an expression.
type truth struct {
	x *expr.Expr
}

// place asks what a path leads to.
type place struct {
	path  []string
	asked conditions
}

func (l every) holds(d api.Value) (bool, api.Errno) { return decide(l, d, false) }

func (l some) holds(d api.Value) (bool, api.Errno) { return decide(l, d, true) }

func (l neither) holds(d api.Value) (bool, api.Errno) {
	one, e := decide(l, d, true)
	return e == api.OK && !one, e
}

// decide asks one clause behind another up to the first that answers as decisive is; the other way round, if none does. What is behind is not asked, so that no error of it is met.
func decide(l []clause, d api.Value, decisive bool) (bool, api.Errno) {
	for _, c := range l {
		b, e := c.holds(d)
		if e != api.OK {
			return false, e
		}
		if b == decisive {
			return decisive, api.OK
		}
	}
	return !decisive, api.OK
}

func (t truth) holds(d api.Value) (bool, api.Errno) {
	v, e := t.x.Eval(d)
	return e == api.OK && expr.True(v), e
}

func (p place) holds(d api.Value) (bool, api.Errno) {
	return p.asked.hold(path.All(d, p.path)), api.OK
}
