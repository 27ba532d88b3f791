package query

import (
	"slices"

	"aqueduct/api"
	"aqueduct/order"
)

// condition tells whether what a path leads to is as it asks. It is a method value of what it compares with.
type condition func(found []api.Value) bool

// conditions are all asked of the same.
type conditions []condition

// operand is a value that others are compared with.
type operand api.Value

// choice is a list of values, one of which will do.
type choice []api.Value

// presence is whether there is to be a value.
type presence bool

// length is how many items a List is to have.
type length int64

// kind is that of a value.
type kind int

func (l conditions) hold(found []api.Value) bool {
	for _, c := range l {
		if !c(found) {
			return false
		}
	}
	return true
}

func (l conditions) not(found []api.Value) bool { return !l.hold(found) }

func (v operand) eq(found []api.Value) bool  { return slices.ContainsFunc(found, v.isAlike) }
func (v operand) ne(found []api.Value) bool  { return !v.eq(found) }
func (v operand) gt(found []api.Value) bool  { return slices.ContainsFunc(found, v.isAhead) }
func (v operand) gte(found []api.Value) bool { return slices.ContainsFunc(found, v.notBehind) }
func (v operand) lt(found []api.Value) bool  { return slices.ContainsFunc(found, v.isBehind) }
func (v operand) lte(found []api.Value) bool { return slices.ContainsFunc(found, v.notAhead) }

// isAlike takes what is Missing for Null, too. The comparisons below keep the two apart, as they are not of one Class.
func (v operand) isAlike(x api.Value) bool {
	return v.beside(x) == 0 || v.Kind == api.Null && x.Kind == api.Missing
}

func (v operand) isAhead(x api.Value) bool   { return v.isKin(x) && v.beside(x) < 0 }
func (v operand) notBehind(x api.Value) bool { return v.isKin(x) && v.beside(x) <= 0 }
func (v operand) isBehind(x api.Value) bool  { return v.isKin(x) && v.beside(x) > 0 }
func (v operand) notAhead(x api.Value) bool  { return v.isKin(x) && v.beside(x) >= 0 }

// beside is below 0 where the operand is ahead of x.
func (v operand) beside(x api.Value) int { return order.Compare(api.Value(v), x) }

func (v operand) isKin(x api.Value) bool { return order.Class(v.Kind) == order.Class(x.Kind) }

func (l choice) in(found []api.Value) bool {
	return slices.ContainsFunc(l, func(v api.Value) bool { return operand(v).eq(found) })
}

func (l choice) nin(found []api.Value) bool { return !l.in(found) }

func (p presence) exists(found []api.Value) bool {
	return slices.ContainsFunc(found, isThere) == bool(p)
}

func isThere(x api.Value) bool { return x.Kind != api.Missing }

func (n length) size(found []api.Value) bool {
	return slices.ContainsFunc(found, func(x api.Value) bool {
		return x.Kind == api.List && int64(len(x.L)) == int64(n)
	})
}

func (k kind) is(found []api.Value) bool {
	return slices.ContainsFunc(found, func(x api.Value) bool { return x.Kind == int(k) })
}
