package expr_test

import (
	"math"
	"testing"

	"aqueduct/api"
)

// The borders of 32 and of 64 bits.
const (
	low32, high32 = math.MinInt32, math.MaxInt32
	low64, high64 = math.MinInt64, math.MaxInt64
)

// TestOfNoArguments has what each operator begins with.
func TestOfNoArguments(t *testing.T) {
	want(t, op("$add"), i32(0))
	want(t, op("$multiply"), i32(1))
	want(t, op("$and"), yes)
	want(t, op("$or"), no)
	want(t, op("$concat"), text(""))
}

func TestAdd(t *testing.T) {
	for _, x := range []struct {
		l    []api.Value
		want api.Value
		e    api.Errno
	}{
		{row(i32(5)), i32(5), api.OK},
		{row(i64(5)), i64(5), api.OK},
		{row(null), null, api.OK},
		{row(missing), null, api.OK},
		{row(i32(1), i32(2), i32(3), i32(-10)), i32(-4), api.OK},
		{row(i32(1), i64(2), i32(3)), i64(6), api.OK},
		{row(i32(high32), i32(1)), i64(high32 + 1), api.OK},
		{row(i32(high32), i32(1), i32(-1)), i64(high32), api.OK}, // an Int64 stays one
		{row(i32(1), i32(-1), i32(high32)), i32(high32), api.OK},
		{row(i32(low32), i32(-1)), i64(low32 - 1), api.OK},
		{row(i64(high64), i32(1)), missing, api.ErrRange},
		{row(i64(high64), i32(1), i32(-1)), missing, api.ErrRange},
		{row(i64(high64), i32(-1), i32(1)), i64(high64), api.OK},
		{row(i64(low64), i32(-1)), missing, api.ErrRange},
		{row(i32(1), null, i32(2)), null, api.OK},
		{row(i32(1), missing), null, api.OK},
		{row(null, text("x")), null, api.OK}, // one by one: Null is ahead of what is no number
		{row(missing, text("x"), list()), null, api.OK},
		{row(text("x"), null), missing, api.ErrType},
		{row(i32(1), text("x"), null), missing, api.ErrType},
		{row(text("1")), missing, api.ErrType},
		{row(i64(high64), i32(1), text("x")), missing, api.ErrRange},
		{row(i64(high64), text("x"), i32(1)), missing, api.ErrType},
		{row(i64(high64), i32(1), null), missing, api.ErrRange},
		{row(null, i64(high64), i32(1)), null, api.OK},
		{repeat(i32(1), 30), i32(30), api.OK},
	} {
		wantCall(t, "$add", x.l, x.want, x.e)
	}
}

func TestMultiply(t *testing.T) {
	for _, x := range []struct {
		l    []api.Value
		want api.Value
		e    api.Errno
	}{
		{row(i32(5)), i32(5), api.OK},
		{row(i64(-5)), i64(-5), api.OK},
		{row(null), null, api.OK},
		{row(missing), null, api.OK},
		{row(i32(2), i32(3), i32(-7)), i32(-42), api.OK},
		{row(i32(2), i32(3), i64(-7)), i64(-42), api.OK},
		{row(i32(1<<16), i32(1<<15)), i64(high32 + 1), api.OK},
		{row(i32(1<<16), i32(1<<15), i32(0)), i64(0), api.OK},
		{row(i32(0), i32(1<<16), i32(1<<15)), i32(0), api.OK},
		{row(i64(low64), i32(-1)), missing, api.ErrRange},
		{row(i64(low64), i32(-1), i32(0)), missing, api.ErrRange},
		{row(i64(low64), i32(0), i32(-1)), i64(0), api.OK},
		{row(i64(1<<62), i32(2)), missing, api.ErrRange},
		{row(i64(1<<62), i32(-2)), i64(low64), api.OK},
		{row(i32(2), null), null, api.OK},
		{row(null, date(1)), null, api.OK},
		{row(date(1), null), missing, api.ErrType},
		{row(i32(0), text("x")), missing, api.ErrType},
		{row(yes), missing, api.ErrType},
		{repeat(i32(2), 40), i64(1 << 40), api.OK},
	} {
		wantCall(t, "$multiply", x.l, x.want, x.e)
	}
}

// TestWithTwoNumbers has what num makes of two, each operator's own.
func TestWithTwoNumbers(t *testing.T) {
	for _, x := range []struct {
		name string
		a, b api.Value
		want api.Value
		e    api.Errno
	}{
		{"$subtract", i32(7), i32(2), i32(5), api.OK},
		{"$subtract", i32(2), i32(7), i32(-5), api.OK},
		{"$subtract", i64(7), i32(2), i64(5), api.OK},
		{"$subtract", i32(low32), i32(1), i64(low32 - 1), api.OK},
		{"$subtract", i64(low64), i32(1), missing, api.ErrRange},
		{"$subtract", i32(0), i64(low64), missing, api.ErrRange},
		{"$divide", i32(7), i32(2), i32(3), api.OK},
		{"$divide", i32(-7), i32(2), i32(-3), api.OK},
		{"$divide", i32(2), i32(7), i32(0), api.OK},
		{"$divide", i32(7), i64(-2), i64(-3), api.OK},
		{"$divide", i32(low32), i32(-1), i64(high32 + 1), api.OK},
		{"$divide", i64(low64), i32(-1), missing, api.ErrRange},
		{"$divide", i32(1), i32(0), missing, api.ErrZero},
		{"$divide", i32(0), i64(0), missing, api.ErrZero},
		{"$mod", i32(7), i32(4), i32(3), api.OK},
		{"$mod", i32(-7), i32(4), i32(-3), api.OK},
		{"$mod", i32(7), i32(-4), i32(3), api.OK},
		{"$mod", i32(4), i64(7), i64(4), api.OK},
		{"$mod", i64(low64), i32(-1), i64(0), api.OK},
		{"$mod", i32(1), i32(0), missing, api.ErrZero},
		{"$mod", i64(low64), i64(0), missing, api.ErrZero},
	} {
		wantCall(t, x.name, row(x.a, x.b), x.want, x.e)
	}
	for _, name := range []string{"$subtract", "$divide", "$mod"} {
		for _, nothing := range row(null, missing) {
			for _, other := range row(i32(0), i32(1), i64(low64), text("x"), null, missing, list(), doc(), date(1)) {
				wantCall(t, name, row(nothing, other), null, api.OK)
				wantCall(t, name, row(other, nothing), null, api.OK)
			}
		}
		for _, stranger := range row(text("1"), yes, date(1), list(i32(1)), doc(), raw("1"), id("abcdefghijkl"), least, greatest) {
			for _, other := range row(i32(0), i32(1), text("x")) {
				wantCall(t, name, row(stranger, other), missing, api.ErrType)
				wantCall(t, name, row(other, stranger), missing, api.ErrType)
			}
		}
	}
}

func TestAbs(t *testing.T) {
	for _, n := range []int64{0, 1, 5, high32} {
		wantCall(t, "$abs", row(i32(n)), i32(n), api.OK)
		wantCall(t, "$abs", row(i32(-n)), i32(n), api.OK)
		wantCall(t, "$abs", row(i64(-n)), i64(n), api.OK)
	}
	wantCall(t, "$abs", row(i32(low32)), i64(high32+1), api.OK)
	wantCall(t, "$abs", row(i64(low64+1)), i64(high64), api.OK)
	wantCall(t, "$abs", row(i64(low64)), missing, api.ErrRange)
	wantCall(t, "$abs", row(null), null, api.OK)
	wantCall(t, "$abs", row(missing), null, api.OK)
	for _, v := range row(text("1"), no, date(-1), doc(), list(i32(-1)), least, greatest, raw("")) {
		wantCall(t, "$abs", row(v), missing, api.ErrType)
	}
}

// TestAllAreReckonedFirst has an argument's error come ahead of what the operator says of those ahead of it.
func TestAllAreReckonedFirst(t *testing.T) {
	for _, name := range []string{"$add", "$multiply", "$concat"} {
		for _, l := range [][]api.Value{
			row(text("x"), fault()), row(i32(1), text("x"), fault()), row(null, fault()), row(i64(high64), i32(2), i64(high64), fault()),
			row(list(), i32(1), fault(), far()), row(fault(), far()), row(fault(), text("x")), row(fault()),
		} {
			wantFault(t, op(name, l...), doc(), api.ErrZero)
		}
		wantFault(t, op(name, i32(1), far(), fault()), doc(), api.ErrRange)
		wantFault(t, is(name, fault()), doc(), api.ErrZero)
	}
	for _, name := range []string{"$subtract", "$divide", "$mod", "$eq", "$ne", "$gt", "$gte", "$lt", "$lte", "$cmp", "$arrayElemAt"} {
		wantFault(t, op(name, text("x"), fault()), doc(), api.ErrZero)
		wantFault(t, op(name, null, fault()), doc(), api.ErrZero)
		wantFault(t, op(name, fault(), text("x")), doc(), api.ErrZero)
		wantFault(t, op(name, fault(), far()), doc(), api.ErrZero)
		wantFault(t, op(name, far(), fault()), doc(), api.ErrRange)
	}
	for _, name := range []string{"$abs", "$not", "$size", "$type"} {
		wantFault(t, op(name, fault()), doc(), api.ErrZero)
		wantFault(t, is(name, far()), doc(), api.ErrRange)
	}
	wantFault(t, op("$divide", text("x"), fault()), doc(), api.ErrZero)
	wantFault(t, list(i32(1), far(), fault()), doc(), api.ErrRange)
	wantFault(t, list(fault(), far()), doc(), api.ErrZero)
	wantFault(t, docs(is("b", far()), is("a", fault())), doc(), api.ErrRange)
	wantFault(t, docs(is("b", text("$none")), is("a", list(fault(), far()))), doc(), api.ErrZero)
}
