package query

import (
	"aqueduct/api"
	"aqueduct/expr"
)

// conditionOf answers an operator's condition with v; nil, where the name is none or does not take v. No operator takes what is no value.
func conditionOf(name string, v api.Value) condition {
	if !isValue(v) {
		return nil
	}
	switch name {
	case "$eq":
		return operand(v).eq
	case "$ne":
		return operand(v).ne
	case "$gt":
		return operand(v).gt
	case "$gte":
		return operand(v).gte
	case "$lt":
		return operand(v).lt
	case "$lte":
		return operand(v).lte
	}
	return conditionOfSort(name, v)
}

// isValue tells what may stand in a document from what is Missing and from kinds that are none. What is within v is not asked.
func isValue(v api.Value) bool { return v.Kind >= api.Least && v.Kind <= api.Greatest }

// conditionOfSort is conditionOf of the operators that take values of one sort alone.
func conditionOfSort(name string, v api.Value) condition {
	switch {
	case name == "$in" && v.Kind == api.List:
		return choice(v.L).in
	case name == "$nin" && v.Kind == api.List:
		return choice(v.L).nin
	case name == "$exists" && v.Kind == api.Bool:
		return presence(v.N != 0).exists
	case name == "$size" && (v.Kind == api.Int32 || v.Kind == api.Int64):
		return length(v.N).size
	case name == "$type" && v.Kind == api.Text:
		return kindCondition(v.S)
	case name == "$not":
		return notCondition(v)
	}
	return nil
}

// kindCondition asks no more than the kinds that stand in documents, so that what is Missing is none.
func kindCondition(name string) condition {
	for k := api.Least; k <= api.Greatest; k++ {
		if expr.NameOf(k) == name {
			return kind(k).is
		}
	}
	return nil
}

func notCondition(v api.Value) condition {
	l, e := conditionsOf(v)
	if e != api.OK {
		return nil
	}
	return l.not
}
