package query_test

import (
	"math"
	"testing"

	"aqueduct/api"
)

// ladder are values in order's order, those of one row alike.
func ladder() [][]api.Value {
	return [][]api.Value{
		{least}, {null}, {i64(math.MinInt64)}, {i32(-1), i64(-1)}, {i32(0), i64(0)}, {i32(2), i64(2)}, {i64(math.MaxInt64)}, {text("")}, {text("a")}, {text("ab")}, {text("b")},
		{doc()}, {is("a", i32(1)), is("a", i64(1))}, {is("a", i32(2))}, {is("b", i32(1))}, {raw("")}, {raw("b")}, {raw("aa")}, {id("abcdefghijkl")}, {id("abcdefghijkm")},
		{no}, {yes}, {date(-1)}, {date(0)}, {greatest},
	}
}

// lists are Lists in order's order.
func lists() []api.Value {
	return row(list(), list(null), list(i32(1)), list(i32(1), i32(0)), list(i32(2)), list(text("a")), list(list()), list(list(i32(1))))
}

// wantCompared has all comparisons of a field that is x with v, x being so many below, alike or above; kin tells whether both are of one Class.
func wantCompared(t *testing.T, x, v api.Value, n int, kin bool) {
	t.Helper()
	wantAt(t, is("$eq", v), x, n == 0)
	wantAt(t, is("$ne", v), x, n != 0)
	wantAt(t, is("$gt", v), x, kin && n > 0)
	wantAt(t, is("$gte", v), x, kin && n >= 0)
	wantAt(t, is("$lt", v), x, kin && n < 0)
	wantAt(t, is("$lte", v), x, kin && n <= 0)
	wantAt(t, op("$in", v), x, n == 0)
	wantAt(t, op("$in", text("none"), v, text("nor this")), x, n == 0)
	wantAt(t, op("$nin", v), x, n != 0)
	wantAt(t, op("$nin", text("none"), v), x, n != 0)
}

// classOf is that of a value that is no List: a place among the Classes of the ladder.
func classOf(v api.Value) int {
	if v.Kind == api.Int64 {
		return api.Int32
	}
	return v.Kind
}

func TestComparisons(t *testing.T) {
	for i, some := range ladder() {
		for j, others := range ladder() {
			for _, x := range some {
				for _, v := range others {
					wantCompared(t, x, v, i-j, classOf(x) == classOf(v))
					want(t, is("a", v), is("a", x), i == j)
				}
			}
		}
		endIfFailed(t)
	}
}

// TestComparisonsOfWhatIsMissing has a field that there is none of, at an end and in the midst, and one that is nothing.
func TestComparisonsOfWhatIsMissing(t *testing.T) {
	for _, d := range row(doc(), is("b", i32(1)), is("a", missing), is("a", null), is("a", i32(3)), is("a", list()), is("a", list(i32(3))), is("a", is("c", i32(1))), is("a", list(is("c", null), i32(1)))) {
		for _, name := range []string{"$gt", "$gte", "$lt", "$lte"} {
			for _, some := range ladder() {
				want(t, is("a.b", is(name, some[0])), d, false)
			}
		}
		for _, some := range ladder() {
			v := some[0]
			want(t, is("a.b", v), d, v.Kind == api.Null)
			want(t, is("a.b", is("$eq", v)), d, v.Kind == api.Null)
			want(t, is("a.b", is("$ne", v)), d, v.Kind != api.Null)
			want(t, is("a.b", op("$in", i32(1), v)), d, v.Kind == api.Null)
			want(t, is("a.b", op("$nin", v, i32(1))), d, v.Kind != api.Null)
		}
	}
}

// TestNull has Null be asked for, of what is Missing, is Null, and of others.
func TestNull(t *testing.T) {
	nulls := row(null, is("$eq", null), op("$in", null), op("$in", i32(1), null), is("$not", is("$ne", null)), is("$not", op("$nin", null)), is("$not", op("$nin", i32(1), null)))
	for _, c := range nulls {
		for _, d := range row(doc(), is("b", i32(1)), is("a", null), is("a", list(null)), is("a", list(i32(1), null))) {
			want(t, is("a", c), d, true)
			want(t, op("$nor", is("a", c)), d, false)
		}
		for _, d := range row(is("a", i32(0)), is("a", no), is("a", text("")), is("a", least), is("a", doc()), is("a", list()), is("a", list(list(null))), is("a", list(text("a"))), is("a", is("b", null))) {
			want(t, is("a", c), d, false)
		}
	}
	for _, name := range []string{"$gte", "$lte"} {
		wantAt(t, is(name, null), null, true)
		wantAt(t, is(name, null), list(null), true)
		want(t, is("a", is(name, null)), doc(), false)
	}
	for _, name := range []string{"$gt", "$lt"} {
		wantAt(t, is(name, null), null, false)
		want(t, is("a", is(name, null)), doc(), false)
	}
	// A List of Null is asked for whole.
	wantAt(t, is("$eq", list(null)), list(null), true)
	want(t, is("a", list(null)), doc(), false)
	want(t, is("a", list(null)), is("a", null), false)
	want(t, is("a", list(null)), is("a", list()), false)
}

// TestNothingWithin has what is no value stand within one that is compared with, and within the document: it is as Compare has it.
func TestNothingWithin(t *testing.T) {
	want(t, is("a", op("$in", missing)), doc(), true)
	want(t, is("a", op("$in", missing)), is("a", null), false)
	want(t, is("a", op("$nin", missing)), doc(), false)
	want(t, is("a", op("$in", none(13))), is("a", none(-1)), true)
	want(t, is("a", op("$in", none(13))), doc(), false)
	for _, v := range nothing() {
		wantAt(t, is("$eq", list(v)), list(v), true)
		wantAt(t, is("$eq", is("b", v)), is("b", v), true)
		wantAt(t, is("$gt", list(v)), list(null), true)
		if v.Kind == api.Missing {
			continue
		}
		for _, name := range comparing() {
			want(t, is("a", is(name, null)), is("a", v), name == "$ne")
		}
		want(t, is("a", op("$in", null)), is("a", v), false)
		want(t, is("a", op("$nin", null)), is("a", v), true)
	}
}

// TestListsOfItems has a field that is a List: an item may match, or the whole.
func TestListsOfItems(t *testing.T) {
	l := list(i32(1), i64(5), text("x"), null, list(i32(7), i32(8)), is("b", i32(9)))
	for _, x := range []struct {
		condition api.Value
		matches   bool
	}{
		{is("$eq", i64(1)), true}, {is("$eq", i32(7)), false}, {is("$eq", list(i32(7), i32(8))), true}, {is("$eq", list(i32(7))), false}, {is("$eq", l), true}, {is("$eq", null), true}, {is("$eq", is("b", i64(9))), true}, {is("$eq", list(l)), false},
		{is("$ne", i32(1)), false}, {is("$ne", i32(7)), true}, {is("$ne", l), false}, {is("$ne", null), false},
		{is("$gt", i32(4)), true}, {is("$gt", i32(5)), false}, {is("$gte", i32(5)), true}, {is("$gte", i32(6)), false}, {is("$lt", i32(1)), false}, {is("$lt", i32(2)), true}, {is("$lte", i32(1)), true}, {is("$lte", i32(0)), false},
		{is("$gt", text("w")), true}, {is("$gt", text("x")), false}, {is("$lt", doc()), false}, {is("$gte", doc()), true}, {is("$gt", yes), false}, {is("$lt", yes), false},
		{is("$gt", list(i32(7), i32(7))), true}, {is("$gt", list(i32(7), i32(8))), false}, {is("$gte", list(i32(7), i32(8))), true}, {is("$lt", list()), false}, {is("$lt", list(i32(1))), false}, {is("$lt", list(i32(1), i32(6))), true},
		{op("$in", i32(7), i32(5)), true}, {op("$in", i32(7), text("y")), false}, {op("$in", l), true}, {op("$in", list(i32(7), i32(8))), true}, {op("$in", l.L...), true}, {op("$in"), false},
		{op("$nin", i32(7), i32(5)), false}, {op("$nin", i32(7), text("y")), true}, {op("$nin", l), false}, {op("$nin"), true},
	} {
		wantAt(t, x.condition, l, x.matches)
	}
	for _, v := range append(plain(), is("a", i32(1))) {
		wantAt(t, is("$eq", v), list(), false)
		wantAt(t, is("$ne", v), list(), true)
		wantAt(t, is("$gte", v), list(), false)
		wantAt(t, is("$lte", v), list(), false)
		wantAt(t, op("$in", v), list(), false)
		wantAt(t, op("$nin", v), list(), true)
	}
	wantAt(t, op("$in", nothing()...), list(), false)
	wantAt(t, op("$nin", nothing()...), list(), true)
}

// TestListsAgainstLists has Lists that are compared whole: their items are no Lists.
func TestListsAgainstLists(t *testing.T) {
	flat := lists()[:6]
	for i, x := range flat {
		for j, v := range flat {
			wantCompared(t, x, v, i-j, true)
		}
	}
	for j, v := range lists() {
		wantAt(t, is("$gt", v), list(list()), j < 6)
		wantAt(t, is("$eq", v), list(list()), j == 0 || j == 6)
		wantAt(t, is("$lt", v), list(list()), j > 0)
	}
}

// TestListsOnTheWay has Lists and documents within Lists ahead of a path's end.
func TestListsOnTheWay(t *testing.T) {
	d := is("a", list(is("b", i32(1)), i32(2), list(is("b", i32(3))), is("b", list(i32(4), list(i32(5)))), is("c", i32(6))))
	for _, x := range []struct {
		condition api.Value
		matches   bool
	}{
		{i32(1), true}, {i32(2), false}, {i32(3), false}, {i32(4), true}, {i32(5), false}, {list(i32(5)), true}, {list(i32(4), list(i32(5))), true}, {i32(6), false}, {null, true},
		{is("$gt", i32(3)), true}, {is("$gt", i32(4)), false}, {is("$ne", i32(3)), true}, {is("$ne", i32(4)), false}, {is("$exists", yes), true}, {is("$exists", no), false}, {is("$size", i32(2)), true}, {is("$size", i32(1)), true}, {is("$size", i32(5)), false},
		{is("$type", text("int")), true}, {is("$type", text("array")), true}, {is("$type", text("null")), false}, {op("$in", i32(9), i32(4)), true}, {op("$nin", i32(2), i32(3)), true}, {is("$not", is("$eq", i32(4))), false},
		// Each condition may have an item of its own.
		{docs(is("$lt", i32(2)), is("$gt", i32(3))), true}, {docs(is("$eq", i32(1)), is("$eq", i32(4))), true}, {docs(is("$eq", i32(1)), is("$eq", i32(2))), false},
	} {
		want(t, is("a.b", x.condition), d, x.matches)
		want(t, op("$nor", is("a.b", x.condition)), d, !x.matches)
	}
	want(t, is("a.0", is("$exists", yes)), d, false)
	want(t, is("a.b.c", null), d, true)
	want(t, is("a.c", null), d, true)
	want(t, is("a.c", i32(6)), d, true)
	want(t, is("a", is("b", i32(1))), d, true)
	want(t, is("a", is("b", i32(3))), d, false)
	want(t, is("a", list(is("b", i32(3)))), d, true)
}

func TestExists(t *testing.T) {
	for _, v := range every() {
		wantAt(t, is("$exists", yes), v, v.Kind != api.Missing)
		wantAt(t, is("$exists", no), v, v.Kind == api.Missing)
		wantAt(t, is("$exists", boolean(2)), v, v.Kind != api.Missing)
	}
	for _, d := range row(doc(), is("b", i32(1)), is("a", null), is("a", list()), is("a", i32(1)), is("a", list(i32(1), list(is("b", i32(1))))), is("a", list(is("c", i32(1)))), is("a", list(is("b", missing)))) {
		want(t, is("a.b", is("$exists", yes)), d, false)
		want(t, is("a.b", is("$exists", no)), d, true)
	}
	for _, v := range row(null, list(), i32(0)) {
		d := is("a", list(is("c", i32(1)), is("b", v)))
		want(t, is("a.b", is("$exists", yes)), d, true)
		want(t, is("a.b", is("$exists", no)), d, false)
	}
	want(t, is("a", is("$exists", yes)), is("a", list(missing)), true)
}

func TestSize(t *testing.T) {
	for n := range int64(4) {
		v := list(repeat(i32(9), int(n))...)
		for _, size := range []int64{-1, 0, 1, 2, 3, 4, 1 << 31, 1 << 32, 1<<32 + n, math.MaxInt64, math.MinInt64} {
			wantAt(t, is("$size", i32(size)), v, size == n)
			wantAt(t, is("$size", i64(size)), v, size == n)
		}
		inner := list(i32(1), v, text("x"))
		wantAt(t, is("$size", i32(n)), inner, true)
		wantAt(t, is("$size", i32(3)), inner, true)
		wantAt(t, is("$size", i32(4)), inner, false)
		wantAt(t, is("$size", i32(n)), list(list(v)), n == 1)
		wantAt(t, docs(is("$size", i32(n)), is("$size", i32(3))), inner, true)
	}
	for _, v := range every() {
		if v.Kind == api.List {
			continue
		}
		for n := range int64(3) {
			wantAt(t, is("$size", i32(n)), v, false)
			v := beside(v)
			want(t, is("a", is("$size", i32(n))), is("a", v), false)
		}
	}
	want(t, is("a", is("$size", i32(0))), doc(), false)
	want(t, is("a.b", is("$size", i32(0))), is("a", list()), false)
}

func TestType(t *testing.T) {
	for kind, name := range typeNames() {
		if kind == api.Missing {
			continue
		}
		c := is("$type", text(name))
		for _, v := range every() {
			if v.Kind == api.List {
				continue
			}
			wantAt(t, c, v, v.Kind == kind)
			wantAt(t, c, list(v), v.Kind == kind || kind == api.List)
			wantAt(t, c, list(text("x"), v), v.Kind == kind || kind == api.List || kind == api.Text)
			wantAt(t, c, list(list(v)), kind == api.List)
		}
		wantAt(t, c, list(), kind == api.List)
		want(t, is("a", c), doc(), false)
		want(t, is("a.b", c), is("a", none(kind)), false)
	}
}

// TestSeveralConditions has all of one field's hold, one, or none; $not is of them together.
func TestSeveralConditions(t *testing.T) {
	between := docs(is("$gt", i32(3)), is("$lt", i32(6)))
	for n := range int64(10) {
		wantAt(t, between, i32(n), n > 3 && n < 6)
		wantAt(t, docs(between, is("$ne", i32(4))), i32(n), n == 5)
		wantAt(t, docs(between, op("$in", numbers(1, 5, 8)...)), i64(n), n == 5)
		wantAt(t, docs(is("$not", between), is("$lt", i32(8))), i32(n), n <= 3 || n >= 6 && n < 8)
		wantAt(t, is("$not", docs(is("$not", between), is("$lt", i32(8)))), i32(n), n > 3 && n < 6 || n >= 8)
		wantAt(t, docs(is("$gt", i32(3)), is("$gt", i32(5))), i32(n), n > 5)
		wantAt(t, docs(is("$not", is("$lt", i32(3))), is("$not", is("$gt", i32(6)))), i32(n), n >= 3 && n <= 6)
	}
	wantAt(t, between, list(numbers(1, 9)...), true)
	wantAt(t, between, list(numbers(1, 2)...), false)
	wantAt(t, is("$not", between), list(numbers(1, 9)...), false)
	wantAt(t, docs(is("$not", is("$gt", i32(3))), is("$not", is("$lt", i32(6)))), list(numbers(1, 9)...), false)
	wantAt(t, docs(is("$size", i32(2)), is("$gt", i32(8)), is("$type", text("array")), is("$exists", yes), is("$ne", i32(3))), list(numbers(1, 9)...), true)
	want(t, is("a", is("$not", is("$gt", i32(3)))), doc(), true)
	want(t, is("a", is("$not", is("$eq", null))), doc(), false)
}

// TestAnyDocument has what is asked be no document: paths lead to nothing in it, or through it, if it is a List.
func TestAnyDocument(t *testing.T) {
	for _, d := range append(every(), list(i32(1), list(is("a", i32(1))))) {
		want(t, doc(), d, true)
		if d.Kind == api.Doc || d.Kind == api.List {
			continue
		}
		for _, d := range row(d, api.Value{Kind: d.Kind, F: is("a", i32(1)).F, L: row(is("a", i32(1)))}) {
			want(t, is("a", null), d, true)
			want(t, is("a", i32(1)), d, false)
			want(t, is("a", is("$exists", no)), d, true)
			want(t, is("$expr", op("$eq", text("$a"), is("$literal", missing))), d, true)
		}
	}
	want(t, is("a", i32(2)), list(is("a", i32(1)), is("a", i32(2))), true)
	want(t, is("a", i32(2)), list(list(is("a", i32(2)))), false)
}
