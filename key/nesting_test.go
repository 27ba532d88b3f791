package key_test

import (
	"strconv"
	"testing"

	"aqueduct/api"
	"aqueduct/key"
)

const deepest = api.MaxDepth + 2

// shapes are ways in which a value lies within another.
var shapes = []func(v api.Value, i int) api.Value{
	func(v api.Value, i int) api.Value { return list(v) },
	func(v api.Value, i int) api.Value { return doc(as("a", v)) },
	func(v api.Value, i int) api.Value {
		if i%2 == 0 {
			return list(i32(1), v, null)
		}
		return doc(as("a", null), as("b", v), as("c", list()))
	},
}

// within lays v so many documents and Lists deep.
func within(v api.Value, depth int, wrap func(v api.Value, i int) api.Value) api.Value {
	for i := range depth {
		v = wrap(v, i)
	}
	return v
}

// TestNesting has values that differ in the deepest place that may be, and less deep ones.
func TestNesting(t *testing.T) {
	pairs := [][2]api.Value{{i32(1), i64(2)}, {null, greatest}, {text("a"), text("a\x00")}, {raw("b"), raw("aa")}, {missing, least}, {none(13), missing}}
	lists := [][2]api.Value{{list(), list(missing)}, {list(null), list(null, null)}, {doc(), doc(as("", missing))}, {doc(as("a", i32(1))), list()}}
	for _, wrap := range shapes {
		for _, depth := range []int{1, 2, 3, api.MaxDepth - 1, api.MaxDepth, api.MaxDepth + 1, deepest} {
			for _, x := range pairs {
				wantDeep(t, within(x[0], depth, wrap), within(x[1], depth, wrap))
			}
			for _, x := range lists {
				wantDeep(t, within(x[0], depth-1, wrap), within(x[1], depth-1, wrap))
			}
			wantRows(t, row(within(i32(1), depth, wrap)), row(within(i64(1), depth, wrap)), nil, 0)
		}
	}
}

func wantDeep(t *testing.T, a, b api.Value) {
	t.Helper()
	wantRows(t, row(a), row(b), nil, -1)
	wantRows(t, row(null, a), row(null, b), []bool{false, true}, 1)
}

// wantNothing has rows in which v stands bring no bytes.
func wantNothing(t *testing.T, what string, v api.Value) {
	t.Helper()
	for _, down := range [][]bool{nil, {true}, {false, true}, {true, true, true}} {
		for _, l := range [][]api.Value{row(v), row(v, null), row(null, v), row(v, v), row(list(list(list())), v, text("a"))} {
			if b := key.Encode(l, down); len(b) != 0 {
				t.Fatalf("%s, %v, %d items: %.100x, want nothing", what, down, len(l), b)
			}
		}
	}
}

// TestNestingBeyond has values that lie too deep by one, and by many.
func TestNestingBeyond(t *testing.T) {
	for k, wrap := range shapes {
		for _, depth := range []int{deepest + 1, deepest + 2, 2 * deepest, 256, 1000, 1<<16 - 1} {
			what := "shape " + strconv.Itoa(k) + ", " + strconv.Itoa(depth) + " deep"
			wantNothing(t, what, within(i32(1), depth, wrap))
			wantNothing(t, what, within(list(), depth-1, wrap))
			wantNothing(t, what, within(doc(), depth-1, wrap))
		}
	}
}

// TestNestingOfOneOfMany has one way down that is too deep beside others that are not.
func TestNestingOfOneOfMany(t *testing.T) {
	for _, wrap := range shapes {
		most, beyond := within(list(), deepest-3, wrap), within(list(), deepest-2, wrap)
		wantRows(t, row(list(most, doc(as("a", most)), most)), row(list(most, doc(as("a", most)), most, null)), nil, -1)
		wantNothing(t, "the first of a List", list(list(beyond), most, null))
		wantNothing(t, "the last of a List", list(most, null, list(beyond)))
		wantNothing(t, "the first of a document", doc(as("a", doc(as("a", beyond))), as("b", null)))
		wantNothing(t, "the last of a document", doc(as("a", most), as("b", doc(as("a", beyond)))))
	}
}

// TestNestingOfEachItem has a row of many items as deep as they may be: they do not add up.
func TestNestingOfEachItem(t *testing.T) {
	for _, wrap := range shapes {
		a, b := within(i32(1), deepest, wrap), within(i32(2), deepest, wrap)
		wantRows(t, row(a, a, a, a), row(a, a, a, b), nil, -1)
		wantRows(t, row(list(), a, doc(), a), row(list(), b, doc(), a), []bool{true, true}, 1)
	}
}

// TestWithinItself has Lists and documents that lie within themselves.
func TestWithinItself(t *testing.T) {
	l := row(null, null, null)
	for i := range l {
		l[i] = list(l...)
	}
	wantNothing(t, "Lists", list(l...))
	f := []api.Field{as("a", null), as("b", null), as("c", null)}
	for i := range f {
		f[i].V = doc(f...)
	}
	wantNothing(t, "documents", doc(f...))
}

// TestBesideIsNoNesting has deep Lists in values whose kind has none.
func TestBesideIsNoNesting(t *testing.T) {
	deep := within(list(), 3*deepest, shapes[0])
	for _, v := range row(none(13), missing, least, null, i32(1), i64(1), text("a"), raw("a"), id("a"), truth(1), date(1), greatest) {
		more := v
		more.L, more.F = row(deep), []api.Field{as("a", deep)}
		wantRows(t, row(v, null), row(more, null), nil, 0)
		more = within(more, deepest, shapes[2])
		wantRows(t, row(within(v, deepest, shapes[2])), row(more), nil, 0)
	}
	more := doc(as("a", null))
	more.L = row(deep)
	wantRows(t, row(doc(as("a", null))), row(more), nil, 0)
	more = list(null)
	more.F = []api.Field{as("a", deep)}
	wantRows(t, row(list(null)), row(more), []bool{true}, 0)
}
