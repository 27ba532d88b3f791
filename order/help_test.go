package order_test

import (
	"bytes"
	"math"
	"slices"
	"strconv"
	"testing"

	"aqueduct/api"
	"aqueduct/bson"
	"aqueduct/order"
)

// The values, short.
var (
	missing  = api.Value{}
	least    = api.Value{Kind: api.Least}
	null     = api.Value{Kind: api.Null}
	greatest = api.Value{Kind: api.Greatest}
)

func i32(n int64) api.Value         { return api.Value{Kind: api.Int32, N: n} }
func i64(n int64) api.Value         { return api.Value{Kind: api.Int64, N: n} }
func text(s string) api.Value       { return api.Value{Kind: api.Text, S: s} }
func raw(s string) api.Value        { return api.Value{Kind: api.Bytes, B: []byte(s)} }
func id(s string) api.Value         { return api.Value{Kind: api.Id, B: []byte(s)} }
func boolean(n int64) api.Value     { return api.Value{Kind: api.Bool, N: n} }
func date(n int64) api.Value        { return api.Value{Kind: api.Date, N: n} }
func list(l ...api.Value) api.Value { return api.Value{Kind: api.List, L: l} }
func none(kind int) api.Value       { return api.Value{Kind: kind} }

// is is a Doc of one field.
func is(name string, v api.Value) api.Value { return doc(api.Field{Name: name, V: v}) }

func doc(l ...api.Field) api.Value { return api.Value{Kind: api.Doc, F: l} }

// docs joins the fields of several documents.
func docs(l ...api.Value) api.Value {
	all := doc()
	for _, v := range l {
		all.F = append(all.F, v.F...)
	}
	return all
}

// row is a row of values.
func row(l ...api.Value) []api.Value { return l }

// alike are values of which each is alike to the others.
type alike []api.Value

// ladder are values of each sort that are one behind another.
func ladder() []alike {
	return slices.Concat(plainBelow(), numbers(), texts(), documents(), lists(), plainAbove())
}

func plainBelow() []alike {
	return []alike{
		{none(-1), none(13), none(math.MinInt), none(math.MaxInt), none(1 << 32)},
		{missing},
		{least},
		{null},
	}
}

// numbers has those beside one another at the borders of both kinds, those that no float tells apart, and Int32s that may not be.
func numbers() []alike {
	var l []alike
	for _, n := range []int64{
		math.MinInt64, math.MinInt64 + 1, -1<<53 - 1, -1 << 53, -1<<32 - 1, -1 << 32,
		math.MinInt32 - 1, math.MinInt32, math.MinInt32 + 1, -256, -2, -1, 0, 1, 2, 255, 256,
		math.MaxInt32 - 1, math.MaxInt32, math.MaxInt32 + 1, math.MaxUint32, 1 << 32, 1<<32 + 1,
		1 << 53, 1<<53 + 1, math.MaxInt64 - 1, math.MaxInt64,
	} {
		l = append(l, alike{i32(n), i64(n)})
	}
	return l
}

// texts has some that are no UTF-8, and some that letters' own order or UTF-16 would place otherwise.
func texts() []alike {
	var l []alike
	for _, s := range []string{
		"", "\x00", "\x00\x00", "\x00\x01", "\x01", "10", "9", "A", "B", "a", "a\x00", "a\x00b", "a\x01", "aB", "aa", "aaa", "ab", "b", "z",
		"\x80", "\u00c4", "\u00e4", "\uffee", "\U0001f600", "\xff", "\xff\xff",
	} {
		l = append(l, alike{text(s)})
	}
	return l
}

// documents are told apart by the value's Class, the name, the value, and what is behind, in this order.
func documents() []alike {
	return []alike{
		{doc(), doc([]api.Field{}...)},
		{is("z", none(-1)), is("z", none(77))},
		{is("a", missing)},
		{is("b", missing)},
		{is("z", least)},
		{is("", null)},
		{is("a", null)},
		{docs(is("a", null), is("a", null))},
		{docs(is("a", null), is("a", i32(1))), docs(is("a", null), is("a", i64(1)))},
		{is("b", null)},
		{is("", i32(9)), is("", i64(9))},
		{is("A", i32(9))},
		{is("a", i32(-5)), is("a", i64(-5))},
		{is("a", i32(1)), is("a", i64(1))},
		{docs(is("a", i32(1)), is("z", missing))},
		{docs(is("a", i32(1)), is("z", null)), docs(is("a", i64(1)), is("z", null))},
		{docs(is("a", i32(1)), is("b", i32(7)))},
		{docs(is("a", i32(1)), is("b", i32(7)), is("c", i32(1)))},
		{docs(is("a", i32(1)), is("b", i32(8)))},
		{docs(is("a", i32(1)), is("c", i32(-8)))},
		{docs(is("a", i32(1)), is("a", text("")))},
		{is("a", i32(2))},
		{is("a\x00", i32(-9))},
		{is("aa", i32(-9))},
		{is("b", i32(-9))},
		{docs(is("b", i32(-9)), is("a", i32(1)))},
		{is("\xff", i32(-9))},
		{is("a", text(""))},
		{is("a", text("b"))},
		{is("b", text("a"))},
		{is("a", doc())},
		{is("a", is("b", i32(1))), is("a", is("b", i64(1)))},
		{is("a", is("b", i32(2)))},
		{is("a", is("a", text("")))},
		{is("b", doc())},
		{is("a", list())},
		{is("a", list(i32(1)))},
		{is("0", raw("")), is("0", raw(""))},
		{is("0", id(""))},
		{is("0", boolean(0))},
		{is("0", date(0))},
		{is("0", greatest)},
		{docs(is("0", greatest), is("0", null))},
	}
}

func lists() []alike {
	return []alike{
		{list(), list([]api.Value{}...)},
		{list(none(-1)), list(none(13))},
		{list(missing)},
		{list(missing, missing)},
		{list(missing, i32(1))},
		{list(least)},
		{list(null)},
		{list(null, null)},
		{list(i32(1)), list(i64(1))},
		{list(i32(1), null)},
		{list(i32(1), i32(2)), list(i64(1), i32(2)), list(i32(1), i64(2)), list(i64(1), i64(2))},
		{list(i32(1), i32(2), least)},
		{list(i32(1), i32(3))},
		{list(i32(1), text(""))},
		{list(i32(2))},
		{list(i32(10))},
		{list(text("a"))},
		{list(text("a"), text("b"))},
		{list(text("ab"))},
		{list(doc())},
		{list(is("a", i32(1))), list(is("a", i64(1)))},
		{list(list())},
		{list(list(), list())},
		{list(list(i32(1))), list(list(i64(1)))},
		{list(list(i32(1)), missing)},
		{list(list(i32(2)), i32(0))},
		{list(list(list()))},
		{list(raw(""))},
		{list(greatest)},
	}
}

// plainAbove has Bytes and Ids that differ at the first byte, at the last, and of which one begins the other; Ids, Bools that may not be.
func plainAbove() []alike {
	var l []alike
	for _, s := range []string{"", "\x00", "a", "b", "\xff", "\x00\x00", "\x00a", "\x00\xff", "aa", "ab", "ba", "\x00\x00\x00", "aaa"} {
		l = append(l, alike{raw(s)})
	}
	for _, s := range []string{"", "\x00", "\x00\x00", "\x00\x00\x00\x00\x00\x00\x00\x00\x00\x00\x00\x00", "\x00\x00\x00\x00\x00\x00\x00\x00\x00\x00\x00\x01", "a", "aaaaaaaaaaaa", "aaaaaaaaaaaaa", "aaaaaaaaaaab", "ab", "b", "baaaaaaaaaaa", "\xff"} {
		l = append(l, alike{id(s)})
	}
	for _, n := range []int64{math.MinInt64, -1, 0, 1, 2, math.MaxInt64} {
		l = append(l, alike{boolean(n)})
	}
	for _, n := range []int64{math.MinInt64, math.MinInt64 + 1, -1 << 32, -256, -1, 0, 1, 255, 256, 1 << 32, 1 << 53, 1<<53 + 1, math.MaxInt64 - 1, math.MaxInt64} {
		l = append(l, alike{date(n)})
	}
	return append(l, alike{greatest})
}

// all are the ladder's values in one list.
func all() []api.Value {
	var l []api.Value
	for _, step := range ladder() {
		l = append(l, step...)
	}
	return l
}

// beside gives v, and what lies within, all that its kind does not have.
func beside(v api.Value, n int64) api.Value {
	more := api.Value{Kind: v.Kind, N: n, S: string(rune('a' + n)), B: []byte{byte(n)}, F: is("a", i32(n)).F, L: []api.Value{i32(n)}}
	switch v.Kind {
	case api.Int32, api.Int64, api.Bool, api.Date:
		more.N = v.N
	case api.Text:
		more.S = v.S
	case api.Bytes, api.Id:
		more.B = v.B
	case api.Doc:
		more.F = nil
		for _, f := range v.F {
			more.F = append(more.F, api.Field{Name: f.Name, V: beside(f.V, n)})
		}
	case api.List:
		more.L = nil
		for _, x := range v.L {
			more.L = append(more.L, beside(x, n))
		}
	}
	return more
}

// show is a value as a short text: its kind, and what it has.
func show(v api.Value) string {
	s := strconv.Itoa(v.Kind) + ":" + strconv.FormatInt(v.N, 10)
	if v.S != "" || len(v.B) > 0 {
		s += strconv.QuoteToASCII(v.S) + strconv.QuoteToASCII(string(v.B))
	}
	for _, f := range v.F {
		s += " " + strconv.QuoteToASCII(f.Name) + show(f.V)
	}
	for _, x := range v.L {
		s += " " + show(x)
	}
	return "(" + s[:min(len(s), 200)] + ")"
}

// endIfFailed ends a test of many values at the first ones that are wrong.
func endIfFailed(t *testing.T) {
	t.Helper()
	if t.Failed() {
		t.FailNow()
	}
}

// wantCompare holds Compare of two, both ways round, against what it ought to be.
func wantCompare(t *testing.T, a, b api.Value, want int) {
	t.Helper()
	if got := order.Compare(a, b); got != want {
		t.Errorf("Compare of %s and %s: %d, want %d", show(a), show(b), got, want)
	}
	if got := order.Compare(b, a); got != -want {
		t.Errorf("Compare of %s and %s: %d, want %d", show(b), show(a), got, -want)
	}
}

// wantBy holds By of two rows, both ways round, against what it ought to be.
func wantBy(t *testing.T, a, b []api.Value, down []bool, want int) {
	t.Helper()
	same, ahead := bson.Copy(list(list(a...), list(b...))), slices.Clone(down)
	if got := order.By(a, b, down); got != want {
		t.Errorf("By of %s and %s, %v: %d, want %d", show(list(a...)), show(list(b...)), down, got, want)
	}
	if got := order.By(b, a, down); got != -want {
		t.Errorf("By of %s and %s, %v: %d, want %d", show(list(b...)), show(list(a...)), down, got, -want)
	}
	if !bson.Same(list(list(a...), list(b...)), same) || !slices.Equal(down, ahead) {
		t.Errorf("By of %s and %s, %v has changed what was handed in", show(list(a...)), show(list(b...)), down)
	}
}

func wantCut(t *testing.T, v api.Value, down bool, want api.Value) {
	t.Helper()
	same := bson.Copy(v)
	if got := order.Cut(v, down); !bson.Same(got, want) {
		t.Errorf("Cut of %s, down %v: %s, want %s", show(v), down, show(got), show(want))
	}
	if !bson.Same(v, same) {
		t.Errorf("Cut of %s, down %v has changed what was handed in", show(v), down)
	}
}

// spoil changes all that hangs on a value, spare room too.
func spoil(v api.Value) {
	for _, f := range v.F {
		spoil(f.V)
	}
	for _, x := range v.L {
		spoil(x)
	}
	copy(v.B[:cap(v.B)], bytes.Repeat([]byte{0x55}, cap(v.B)))
	for i := range v.F[:cap(v.F)] {
		v.F[:cap(v.F)][i] = api.Field{Name: "spoilt", V: i32(77)}
	}
	for i := range v.L[:cap(v.L)] {
		v.L[:cap(v.L)][i] = i32(77)
	}
}
