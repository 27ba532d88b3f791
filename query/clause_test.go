package query_test

import (
	"slices"
	"testing"

	"aqueduct/api"
)

// outcome is what a query answers of whatever document.
type outcome struct {
	v       api.Value
	matches bool
	e       api.Errno
}

func outcomes() []outcome {
	return []outcome{{holds(), true, api.OK}, {fails(), false, api.OK}, {fault(), false, api.ErrZero}, {far(), false, api.ErrRange}}
}

// decided is what comes of some that are asked in order, up to the first that answers as decisive is, or tells an error.
func decided(l []outcome, decisive bool) (bool, api.Errno) {
	i := slices.IndexFunc(l, func(o outcome) bool { return o.e != api.OK || o.matches == decisive })
	if i < 0 {
		return !decisive, api.OK
	}
	return l[i].matches, l[i].e
}

// rows are all rows of up to so many outcomes.
func rows(most int) [][]outcome {
	all := [][]outcome{nil}
	for i := 0; i < len(all) && len(all[i]) < most; i++ {
		for _, o := range outcomes() {
			all = append(all, append(slices.Clone(all[i]), o))
		}
	}
	return all
}

// TestWhatDecides has $and, $or, $nor and fields of queries that hold, fail, or tell one error or another, in every order.
func TestWhatDecides(t *testing.T) {
	for _, l := range rows(4) {
		var queries []api.Value
		for _, o := range l {
			queries = append(queries, o.v)
		}
		all, e := decided(l, false)
		wantAnswer(t, docs(queries...), is("a", i32(1)), all, e)
		if len(l) == 0 {
			continue
		}
		wantAnswer(t, op("$and", queries...), doc(), all, e)
		wantAnswer(t, op("$nor", op("$and", queries...)), doc(), e == api.OK && !all, e)
		one, e := decided(l, true)
		wantAnswer(t, op("$or", queries...), doc(), one, e)
		wantAnswer(t, op("$nor", queries...), doc(), e == api.OK && !one, e)
		wantAnswer(t, op("$nor", op("$nor", queries...)), doc(), one, e)
		wantAnswer(t, op("$and", op("$or", queries...), fault()), doc(), false, map[bool]api.Errno{true: api.ErrZero, false: e}[one])
	}
}

// TestFieldsDecide has a field that does not hold ahead of what would be an error, and behind it.
func TestFieldsDecide(t *testing.T) {
	for _, d := range row(is("a", i32(1)), docs(is("b", i32(1)), is("a", list(i32(1))))) {
		want(t, docs(is("a", i32(2)), fault()), d, false)
		wantFault(t, docs(fault(), is("a", i32(2))), d, api.ErrZero)
		wantFault(t, docs(is("a", i32(1)), fault(), is("a", i32(2))), d, api.ErrZero)
		wantFault(t, docs(is("a", i32(1)), far(), fault()), d, api.ErrRange)
		want(t, op("$or", is("a", i32(1)), fault()), d, true)
		wantFault(t, op("$or", is("a", i32(2)), fault()), d, api.ErrZero)
		want(t, op("$nor", is("a", i32(1)), fault()), d, false)
		wantFault(t, op("$nor", is("a", i32(2)), fault(), is("a", i32(1))), d, api.ErrZero)
		want(t, op("$and", op("$or", is("a", i32(1)), fault()), op("$nor", is("a", i32(2)))), d, true)
		want(t, docs(op("$and", is("a", i32(2))), op("$or", fault())), d, false)
	}
}

// TestWithinEachOther has $and, $or, $nor and fields of two numbers.
func TestWithinEachOther(t *testing.T) {
	for a := range int64(4) {
		for b := range int64(4) {
			d := docs(is("a", i32(a)), is("b", is("c", i64(b))))
			want(t, docs(is("a", i32(1)), is("b.c", i32(2))), d, a == 1 && b == 2)
			want(t, op("$or", is("a", i32(1)), is("b.c", i32(2))), d, a == 1 || b == 2)
			want(t, op("$nor", is("a", i32(1)), is("b.c", i32(2))), d, a != 1 && b != 2)
			want(t, op("$or", docs(is("a", i32(1)), is("b.c", i32(2))), docs(is("a", i32(2)), is("b.c", i32(1)))), d, a == 1 && b == 2 || a == 2 && b == 1)
			want(t, op("$and", op("$or", is("a", i32(0)), is("a", i32(3))), op("$nor", is("b.c", i32(0)), is("b.c", i32(3)))), d, (a == 0 || a == 3) && b != 0 && b != 3)
			want(t, docs(is("a", is("$gt", i32(0))), op("$nor", op("$and", is("a", i32(2)), is("b.c", i32(2)))), is("b.c", is("$lt", i32(3)))), d, a > 0 && !(a == 2 && b == 2) && b < 3)
			want(t, is("$expr", op("$lt", text("$a"), text("$b.c"))), d, a < b)
			want(t, docs(is("$expr", op("$lt", text("$a"), text("$b.c"))), is("a", is("$ne", i32(1)))), d, a < b && a != 1)
			want(t, op("$nor", is("$expr", op("$eq", text("$a"), text("$b.c")))), d, a != b)
			want(t, op("$or", is("a", is("b.c", null)), docs(is("$expr", op("$subtract", text("$a"), text("$b.c"))), is("a", i32(3)))), d, a == 3 && b != 3)
		}
	}
}

// TestExpressionsAreTrue has $expr of what is true and what is not, of each kind, as it stands and by a path.
func TestExpressionsAreTrue(t *testing.T) {
	for _, v := range every() {
		numeric := v.Kind == api.Int32 || v.Kind == api.Int64 || v.Kind == api.Bool
		holds := v.Kind != api.Missing && v.Kind != api.Null && !(numeric && v.N == 0)
		want(t, is("$expr", is("$literal", v)), doc(), holds)
		want(t, is("$expr", text("$a")), is("a", v), holds)
		want(t, is("$expr", text("$a.b")), is("a", is("b", v)), holds)
		want(t, op("$nor", is("$expr", text("$a"))), is("a", v), !holds)
	}
	want(t, is("$expr", text("$a")), doc(), false)
	want(t, is("$expr", list()), doc(), true)
	want(t, is("$expr", no), doc(), false)
}

// TestExpressionsTellErrors has each error of Eval, of some documents alone.
func TestExpressionsTellErrors(t *testing.T) {
	divided := is("$expr", op("$divide", i32(6), text("$a")))
	for _, x := range []struct {
		v       api.Value
		matches bool
		e       api.Errno
	}{{i32(3), true, api.OK}, {i32(7), false, api.OK}, {i32(0), false, api.ErrZero}, {text("x"), false, api.ErrType}, {null, false, api.OK}, {missing, false, api.OK}, {list(i32(3)), false, api.ErrType}} {
		d := is("a", x.v)
		wantAnswer(t, divided, d, x.matches, x.e)
		wantAnswer(t, op("$nor", divided), d, x.e == api.OK && !x.matches, x.e)
		wantAnswer(t, op("$or", divided, doc()), d, x.e == api.OK, x.e)
		want(t, op("$or", doc(), divided), d, true)
		want(t, docs(fails(), divided), d, false)
	}
	wantFault(t, is("$expr", op("$concat", text("$a"), text("$a"))), is("a", text(string(make([]byte, api.MaxBytes/2+1)))), api.ErrLong)
	wantFault(t, far(), doc(), api.ErrRange)
}
