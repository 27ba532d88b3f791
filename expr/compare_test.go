package expr_test

import (
	"math"
	"testing"

	"aqueduct/api"
)

// outcomes has what each operator says of a value that is ahead, alike, behind.
func outcomes() map[string][3]api.Value {
	return map[string][3]api.Value{
		"$eq":  {no, yes, no},
		"$ne":  {yes, no, yes},
		"$gt":  {no, no, yes},
		"$gte": {no, yes, yes},
		"$lt":  {yes, no, no},
		"$lte": {yes, yes, no},
		"$cmp": {i32(-1), i32(0), i32(1)},
	}
}

// wantOrder has all comparisons of a and b, n being -1, 0, 1.
func wantOrder(t *testing.T, a, b api.Value, n int) {
	t.Helper()
	for name, l := range outcomes() {
		wantCall(t, name, row(a, b), l[1+n], api.OK)
		wantCall(t, name, row(b, a), l[1-n], api.OK)
	}
}

// TestComparisons has values that rise, each beside each: those of each kind, and some of one kind.
func TestComparisons(t *testing.T) {
	rising := row(missing, least, null, i64(math.MinInt64), i32(-1), i32(0), i64(1), i32(2), i64(math.MaxInt64), text(""), text("A"), text("a"), text("a\x00"), text("aa"),
		doc(), is("a", null), is("a", i32(1)), is("b", i32(0)), list(), list(null), list(i32(1)), list(i32(1), null), list(i32(2)), raw(""), raw("b"), raw("aa"),
		id("aaaaaaaaaaaa"), id("aaaaaaaaaaab"), no, yes, date(-1), date(0), greatest)
	for i, a := range rising {
		for j, b := range rising {
			if i < j {
				wantOrder(t, a, b, -1)
			}
		}
		wantOrder(t, a, a, 0)
	}
}

// TestComparisonsOfTwoKindsOfNumber has them go by number.
func TestComparisonsOfTwoKindsOfNumber(t *testing.T) {
	for _, n := range []int64{0, 1, -1, low32, high32} {
		wantOrder(t, i32(n), i64(n), 0)
		wantOrder(t, i32(n), i64(n+1), -1)
		wantOrder(t, i32(n), i64(n-1), 1)
		wantOrder(t, list(i32(n)), list(i64(n)), 0)
		wantOrder(t, is("a", i32(n)), is("a", i64(n)), 0)
		wantOrder(t, i32(n), date(n), -1)
		wantOrder(t, i32(n), boolean(n), -1)
	}
}

// TestComparisonsOfWhatIsMissing has a path that leads nowhere be neither Null nor a value.
func TestComparisonsOfWhatIsMissing(t *testing.T) {
	d := docs(is("a", null), is("b", list(i32(1))))
	wantOf(t, op("$eq", text("$x"), text("$y.z")), d, yes)
	wantOf(t, op("$eq", text("$x"), null), d, no)
	wantOf(t, op("$lt", text("$x"), text("$a")), d, yes)
	wantOf(t, op("$eq", text("$a"), null), d, yes)
	wantOf(t, op("$cmp", least, text("$x")), d, i32(1))
	wantOf(t, op("$eq", text("$b"), i32(1)), d, no) // a List is not its items
	wantOf(t, op("$eq", text("$b"), list(i64(1))), d, yes)
	wantOf(t, op("$eq", list(text("$x")), list(null)), d, yes)
	wantOf(t, op("$eq", is("k", text("$x")), doc()), d, yes)
}
