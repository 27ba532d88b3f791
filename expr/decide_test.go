package expr_test

import (
	"math"
	"testing"

	"aqueduct/api"
)

// trues and falses are values of each kind, with some that may not be.
func trues() []api.Value {
	return row(least, i32(1), i32(-1), i32(1<<40), i64(1), i64(math.MinInt64), i64(1<<32), text(""), text("0"), text("false"), doc(), is("a", no), list(), list(no), list(null),
		raw(""), raw("\x00"), id(""), id("\x00\x00\x00\x00\x00\x00\x00\x00\x00\x00\x00\x00"), yes, boolean(2), boolean(-1), date(0), date(1), greatest, none(13), none(-1))
}

func falses() []api.Value {
	return row(missing, null, i32(0), i64(0), no)
}

// TestWhatIsTrue asks each operator that asks.
func TestWhatIsTrue(t *testing.T) {
	for n, l := range [][]api.Value{falses(), trues()} {
		is, not := boolean(int64(n)), boolean(int64(1-n))
		for _, v := range l {
			for _, v := range row(v, beside(v)) {
				wantCall(t, "$not", row(v), not, api.OK)
				wantCall(t, "$and", row(v), is, api.OK)
				wantCall(t, "$or", row(v), is, api.OK)
				wantCall(t, "$and", row(yes, v, i32(7)), is, api.OK)
				wantCall(t, "$or", row(no, v, i32(0)), is, api.OK)
				wantCall(t, "$cond", row(v, i32(1), i32(0)), i32(int64(n)), api.OK)
			}
		}
	}
	want(t, op("$not", literal(list())), no)
	want(t, op("$not", op("$not", i32(5))), yes)
	want(t, is("$not", op("$and")), no)
}

// TestFirstThatDecides has arguments behind it that would be errors, and ahead of it one that is.
func TestFirstThatDecides(t *testing.T) {
	for _, v := range falses() {
		want(t, op("$and", literal(v), fault()), no)
		want(t, op("$and", i32(1), text("x"), literal(v), far(), fault()), no)
		wantFault(t, op("$or", literal(v), fault(), far()), doc(), api.ErrZero)
		wantFault(t, op("$or", literal(v), literal(v), far(), fault(), yes), doc(), api.ErrRange)
		wantFault(t, op("$and", fault(), literal(v)), doc(), api.ErrZero)
		want(t, op("$or", literal(v), no, literal(v)), no)
	}
	for _, v := range trues() {
		want(t, op("$or", literal(v), fault()), yes)
		want(t, op("$or", i32(0), null, literal(v), far(), fault()), yes)
		wantFault(t, op("$and", literal(v), fault(), far()), doc(), api.ErrZero)
		wantFault(t, op("$and", literal(v), literal(v), far(), fault(), no), doc(), api.ErrRange)
		wantFault(t, op("$or", fault(), literal(v)), doc(), api.ErrZero)
		want(t, op("$and", literal(v), yes, literal(v)), yes)
	}
	want(t, is("$and", fields(fault(), 0)), yes)
	wantFault(t, is("$and", fault()), doc(), api.ErrZero)
	wantFault(t, is("$or", fault()), doc(), api.ErrZero)
	want(t, is("$or", op("$or", no, op("$and", yes, yes), fault())), yes)
	wantOf(t, op("$and", text("$a"), text("$b"), fault()), docs(is("a", i32(1)), is("b", no)), no)
	wantOf(t, op("$or", text("$a"), text("$b"), fault()), docs(is("a", i32(0)), is("b", doc())), yes)
}

func TestCond(t *testing.T) {
	for _, x := range trues() {
		for _, v := range append(plain(), null, missing, doc(), list(i32(1)), text("$a")) {
			want(t, op("$cond", literal(x), literal(v), fault()), v)
		}
		wantFault(t, op("$cond", literal(x), far(), fault()), doc(), api.ErrRange)
		wantFault(t, op("$cond", literal(x), fault(), i32(1)), doc(), api.ErrZero)
	}
	for _, x := range falses() {
		for _, v := range append(plain(), null, missing, doc(), list(i32(1)), text("$a")) {
			want(t, op("$cond", literal(x), fault(), literal(v)), v)
		}
		wantFault(t, op("$cond", literal(x), fault(), far()), doc(), api.ErrRange)
		wantFault(t, op("$cond", literal(x), i32(1), fault()), doc(), api.ErrZero)
	}
	wantFault(t, op("$cond", fault(), i32(1), far()), doc(), api.ErrZero)
	wantFault(t, op("$cond", far(), i32(1), i32(2)), doc(), api.ErrRange)
	d := docs(is("a", i32(0)), is("b", text("b")), is("c", text("c")))
	wantOf(t, op("$cond", text("$a"), text("$b"), text("$c")), d, text("c"))
	wantOf(t, op("$cond", text("$b"), text("$b"), text("$c")), d, text("b"))
	wantOf(t, op("$cond", op("$gt", text("$a"), i32(-1)), op("$concat", text("$b"), text("$c")), null), d, text("bc"))
	wantOf(t, op("$cond", text("$a"), text("$b"), text("$x")), d, missing)
}

func TestIfNull(t *testing.T) {
	for _, v := range append(plain(), doc(), list(), list(null), text("$a"), none(13), none(-1)) {
		if v.Kind == api.Null {
			continue
		}
		wantCall(t, "$ifNull", row(v, i32(9)), v, api.OK)
		wantCall(t, "$ifNull", row(null, v), v, api.OK)
		wantCall(t, "$ifNull", row(missing, v), v, api.OK)
		want(t, op("$ifNull", literal(v), fault()), v)
	}
	for _, v := range row(null, missing, beside(null), beside(missing)) {
		wantCall(t, "$ifNull", row(v, null), null, api.OK)
		wantCall(t, "$ifNull", row(v, missing), missing, api.OK)
		wantFault(t, op("$ifNull", literal(v), fault()), doc(), api.ErrZero)
	}
	wantFault(t, op("$ifNull", far(), fault()), doc(), api.ErrRange)
	wantFault(t, op("$ifNull", far(), i32(1)), doc(), api.ErrRange)
	wantOf(t, op("$ifNull", text("$x"), text("$a")), is("a", i32(3)), i32(3))
	wantOf(t, op("$ifNull", text("$a"), op("$ifNull", text("$x"), text("none"))), doc(), text("none"))
}
