package expr_test

import (
	"strings"
	"testing"

	"aqueduct/api"
	"aqueduct/bson"
	"aqueduct/expr"
	"aqueduct/path"
)

func TestConcat(t *testing.T) {
	for _, x := range []struct {
		l    []api.Value
		want api.Value
		e    api.Errno
	}{
		{row(text("")), text(""), api.OK},
		{row(text("a")), text("a"), api.OK},
		{row(text("a"), text(""), text("b\x00"), text("\xff"), text("a")), text("ab\x00\xffa"), api.OK},
		{row(text("\u20ac"), text("\u00e4")), text("\u20ac\u00e4"), api.OK},
		{row(text("$a"), text("b")), text("$ab"), api.OK},
		{row(null), null, api.OK},
		{row(missing), null, api.OK},
		{row(text("a"), null), null, api.OK},
		{row(missing, text("a")), null, api.OK},
		{row(null, i32(1)), null, api.OK}, // Null comes ahead of ErrType, wherever it stands
		{row(i32(1), null), null, api.OK},
		{row(i32(1), text("a"), list(), missing), null, api.OK},
		{row(missing, doc(), null), null, api.OK},
		{row(i32(1)), missing, api.ErrType},
		{row(text("a"), i32(1)), missing, api.ErrType},
		{row(yes, text("a")), missing, api.ErrType},
		{row(list(text("a"))), missing, api.ErrType},
		{row(text("a"), raw("b"), text("c")), missing, api.ErrType},
		{row(date(1), least), missing, api.ErrType},
		{row(greatest), missing, api.ErrType},
	} {
		wantCall(t, "$concat", x.l, x.want, x.e)
	}
	wantCall(t, "$concat", row(beside(text("a")), beside(text("b"))), text("ab"), api.OK)
}

// TestConcatOfVeryMuch has just so many bytes, and one more, in one text, in two and in many.
func TestConcatOfVeryMuch(t *testing.T) {
	most := strings.Repeat("n", api.MaxBytes)
	half := most[:api.MaxBytes/2]
	want(t, op("$concat", text(most)), text(most))
	want(t, is("$concat", text(most)), text(most))
	want(t, op("$concat", text(""), text(most), text("")), text(most))
	want(t, op("$concat", text(half), text(half)), text(most))
	want(t, op("$concat", text(half), text(half[1:]), text("n")), text(most))
	wantFault(t, op("$concat", text(most+"n")), doc(), api.ErrLong)
	wantFault(t, op("$concat", text(most), text("n")), doc(), api.ErrLong)
	wantFault(t, op("$concat", text(half), text(half), text("n")), doc(), api.ErrLong)
	wantFault(t, op("$concat", repeat(text(most), api.MaxItems)...), doc(), api.ErrLong)
	euro := strings.Repeat("\u20ac", api.MaxBytes/3) // bytes, not letters
	want(t, op("$concat", text(euro), text("n")), text(euro+"n"))
	wantFault(t, op("$concat", text(euro), text("nn")), doc(), api.ErrLong)
	// Null, then ErrType, come ahead of ErrLong.
	want(t, op("$concat", text(most), text(most), null), null)
	want(t, op("$concat", null, text(most), text(most)), null)
	wantFault(t, op("$concat", text(most), text(most), i32(1)), doc(), api.ErrType)
	wantFault(t, op("$concat", i32(1), text(most), text(most)), doc(), api.ErrType)
	wantFault(t, op("$concat", text(most), text(most), fault()), doc(), api.ErrZero)
	wantOf(t, op("$concat", text("$a"), text("$a")), is("a", text(half)), text(most))
	wantFault(t, op("$concat", text("$a"), text("$a"), text("n")), is("a", text(half)), api.ErrLong)
	// A text that is not joined may be longer.
	want(t, text(most+"n"), text(most+"n"))
}

func TestSize(t *testing.T) {
	for n := range 20 {
		wantCall(t, "$size", row(list(repeat(null, n)...)), i32(int64(n)), api.OK)
	}
	wantCall(t, "$size", row(list(list(i32(1), i32(2)), doc())), i32(2), api.OK)
	wantCall(t, "$size", row(list(missing, missing)), i32(2), api.OK)
	for _, v := range append(plain(), missing, doc(), is("a", list()), none(13)) {
		for _, v := range row(v, beside(v)) {
			wantCall(t, "$size", row(v), missing, api.ErrType)
		}
	}
	long := list(repeat(null, 70000)...)
	wantOf(t, is("$size", text("$a")), is("a", long), i32(70000))
	want(t, op("$size", list()), i32(0))
	want(t, op("$size", list(i32(1), text("$x"))), i32(2)) // Null is there in place of it
	wantOf(t, is("$size", text("$a.b")), is("a", list(is("b", i32(1)), doc(), is("b", i32(2)))), i32(2))
}

func TestArrayElemAt(t *testing.T) {
	l := list(text("a"), i32(1), list(i32(2)), null)
	for n, v := range l.L {
		for _, at := range row(i32(int64(n)), i64(int64(n)), i32(int64(n-len(l.L))), i64(int64(n-len(l.L)))) {
			wantCall(t, "$arrayElemAt", row(l, at), v, api.OK)
		}
	}
	for _, n := range []int64{4, 5, -5, -6, high32, low32, high64, low64, 1 << 32, -1 << 32, 1<<32 + 1} {
		wantCall(t, "$arrayElemAt", row(l, i64(n)), missing, api.OK)
		wantCall(t, "$arrayElemAt", row(list(), i64(n)), missing, api.OK)
	}
	for _, n := range []int64{0, 1, -1} {
		wantCall(t, "$arrayElemAt", row(list(), i32(n)), missing, api.OK)
	}
	for _, nothing := range row(null, missing) {
		for _, other := range row(l, i32(1), text("x"), doc(), null, missing, date(1)) {
			wantCall(t, "$arrayElemAt", row(nothing, other), null, api.OK)
			wantCall(t, "$arrayElemAt", row(other, nothing), null, api.OK)
		}
	}
	for _, v := range append(plain(), doc(), is("0", i32(1))) {
		if v.Kind == api.Null {
			continue
		}
		wantCall(t, "$arrayElemAt", row(v, i32(0)), missing, api.ErrType)
		wantCall(t, "$arrayElemAt", row(v, text("x")), missing, api.ErrType)
		if v.Kind != api.Int32 && v.Kind != api.Int64 {
			wantCall(t, "$arrayElemAt", row(l, v), missing, api.ErrType)
			wantCall(t, "$arrayElemAt", row(list(), v), missing, api.ErrType)
		}
	}
	wantCall(t, "$arrayElemAt", row(l, list(i32(0))), missing, api.ErrType)
	wantOf(t, op("$arrayElemAt", text("$a"), op("$subtract", is("$size", text("$a")), i32(1))), is("a", list(i32(5), i32(6))), i32(6))
}

func TestType(t *testing.T) {
	for _, x := range []struct {
		name string
		l    []api.Value
	}{
		{"missing", row(missing)}, {"minKey", row(least)}, {"null", row(null)}, {"int", row(i32(0), i32(7))}, {"long", row(i64(0), i64(1<<40))},
		{"string", row(text(""), text("int"), text("$a"))}, {"object", row(doc(), is("a", i32(1)))}, {"array", row(list(), list(i32(1)), list(list(), doc()))},
		{"binData", row(raw(""), raw("a"))}, {"objectId", row(id("abcdefghijkl"))}, {"bool", row(no, yes)}, {"date", row(date(0))}, {"maxKey", row(greatest)},
	} {
		for _, v := range x.l {
			wantCall(t, "$type", row(v), text(x.name), api.OK)
			wantCall(t, "$type", row(beside(v)), text(x.name), api.OK)
		}
	}
	want(t, is("$type", text("$a.b")), text("missing"))
	want(t, is("$type", op("$add", i32(1), i64(1))), text("long"))
	want(t, op("$type", list(i32(1), i32(2))), text("array"))
	for _, kind := range kinds() {
		wantCall(t, "$type", row(none(kind)), text(""), api.OK)
	}
}

// TestPathsLead has a path lead where path.Reach does, whatever the document is.
func TestPathsLead(t *testing.T) {
	inner := list(is("b", i32(1)), i32(5), is("b", i32(2)), list(is("b", i32(3))), doc())
	for _, d := range append(plain(), missing, doc(), list(), is("a", i32(1)), is("a", is("b", i32(1))), is("a", inner), inner, list(is("a", inner)), docs(is("a", i32(1)), is("a", i32(2))), beside(null), none(13)) {
		for _, p := range []string{"a", "a.b", "b", "a.b.c", "a.0"} {
			names, _ := path.Parse(p)
			wantOf(t, text("$"+p), d, path.Reach(d, names))
		}
	}
	wantOf(t, text("$a.b"), is("a", inner), list(i32(1), i32(2), list(i32(3))))
	wantOf(t, text("$a.b"), is("a", list(i32(1))), list())
	wantOf(t, text("$a"), doc(), missing)
}

// TestDocsAndLists has fields that are Missing left out, and Null in their place in a List.
func TestDocsAndLists(t *testing.T) {
	d := docs(is("a", i32(1)), is("b", text("x")), is("n", null))
	wantOf(t, doc(), d, doc())
	wantOf(t, list(), d, list())
	wantOf(t, docs(is("z", text("$a")), is("y", text("$x")), is("x", text("$b")), is("w", text("$n"))), d, docs(is("z", i32(1)), is("x", text("x")), is("w", null)))
	wantOf(t, list(text("$a"), text("$x"), text("$b"), text("$n"), text("$x.y")), d, list(i32(1), null, text("x"), null, null))
	wantOf(t, docs(is("p", text("$x")), is("q", text("$y"))), d, doc())
	wantOf(t, list(text("$x")), d, list(null))
	wantOf(t, is("a", is("b", text("$x"))), d, is("a", doc()))
	wantOf(t, list(list(text("$x")), is("a", list(text("$x"), is("b", text("$x"))))), d, list(list(null), is("a", list(null, doc()))))
	wantOf(t, docs(is("a", literal(missing)), is("b", op("$cond", no, i32(1), text("$x"))), is("c", op("$arrayElemAt", list(i32(1)), i32(1)))), d, doc())
	wantOf(t, list(literal(missing), op("$ifNull", text("$x"), text("$y")), op("$arrayElemAt", list(i32(1)), i32(-2))), d, list(null, null, null))
	wantOf(t, is("a", literal(beside(missing))), d, doc())
	wantOf(t, docs(is("", text("$a")), is("a.b", text("$b")), is("\xff", i32(3))), d, docs(is("", i32(1)), is("a.b", text("x")), is("\xff", i32(3))))
	wantOf(t, docs(is("a", i32(1)), is("a", text("$x")), is("a", i32(2))), d, docs(is("a", i32(1)), is("a", i32(2))))
	// What lies within a value of the document, or a literal, stays as it is.
	wantOf(t, list(text("$o"), literal(list(missing))), is("o", docs(is("p", missing), is("q", list(missing)))), list(docs(is("p", missing), is("q", list(missing))), list(missing)))
	// A Doc's fields and a List's items are all that the answer has.
	wantAnswerOnly(t, beside(list(i32(1))), list(i32(1)))
	wantAnswerOnly(t, beside(is("a", i32(1))), is("a", i32(1)))
}

// wantAnswerOnly has Eval bring that of an expression that has more.
func wantAnswerOnly(t *testing.T, v, want api.Value) {
	t.Helper()
	x, e := expr.Parse(v)
	if e != api.OK {
		t.Fatal(show(v), e)
	}
	if got, e := x.Eval(doc()); e != api.OK || !bson.Same(got, want) {
		t.Errorf("%s: %s, %v", show(v), show(got), e)
	}
}
