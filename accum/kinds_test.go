package accum_test

import (
	"math"
	"testing"

	"aqueduct/accum"
	"aqueduct/api"
	"aqueduct/order"
)

// The borders of 32 and of 64 bits.
const (
	low32, high32 = math.MinInt32, math.MaxInt32
	low64, high64 = math.MinInt64, math.MaxInt64
)

func TestSumOfNoNumbers(t *testing.T) {
	for _, v := range append(append(plain(), strangers()...), missing, null) {
		if v.Kind == api.Int32 || v.Kind == api.Int64 {
			continue
		}
		v.N = 5
		wantValue(t, accum.Sum, i32(0), v)
		wantValue(t, accum.Sum, i32(7), i32(3), v, i32(4), v)
	}
}

// TestSumOfBothKinds has an Int64 among them, or a sum that needs it, make the sum one; it stays one.
func TestSumOfBothKinds(t *testing.T) {
	for _, x := range []struct {
		want api.Value
		l    []api.Value
	}{
		{i32(0), row(i32(0))},
		{i64(0), row(i64(0))},
		{i64(5), row(i32(2), i64(3))},
		{i64(5), row(i64(2), i32(3))},
		{i64(5), row(i32(2), i64(0), i32(3))},
		{i32(-5), row(i32(2), i32(-7))},
		{i64(0), row(i64(-9), i32(9))},
		{i32(high32), row(i32(high32-1), i32(1))},
		{i64(high32 + 1), row(i32(high32), i32(1))},
		{i64(high32), row(i32(high32), i32(1), i32(-1))},
		{i32(high32), row(i32(high32), i32(-1), i32(1))},
		{i32(low32), row(i32(low32+1), i32(-1))},
		{i64(low32 - 1), row(i32(low32), i32(-1))},
		{i64(low32), row(i32(low32), i32(-1), i32(1))},
		{i64(2 * high32), row(i32(high32), i32(high32))},
		{i64(high64), row(i64(high64-1), i32(1))},
		{i64(high64), row(i64(high64), i32(0), i64(0))},
		{i64(low64), row(i64(low64+1), i32(-1))},
		{i64(-1), row(i64(high64), i64(low64))},
		{i64(5), row(api.Value{Kind: api.Int64, N: 5, S: "beside", L: row(null)})},
	} {
		wantValue(t, accum.Sum, x.want, x.l...)
	}
}

// TestSumBeyond64Bits has what does not go into the sum left out, and what comes behind it go in.
func TestSumBeyond64Bits(t *testing.T) {
	high, low := i64(high64), i64(low64)
	wantSteps(t, accum.Sum, i32(0), 20, step{high, 0, high, 24}, step{i32(1), api.ErrRange, high, 24}, step{text("x"), 0, high, 24}, step{i32(0), 0, high, 24},
		step{high, api.ErrRange, high, 24}, step{i32(-1), 0, i64(high64 - 1), 24}, step{i64(2), api.ErrRange, i64(high64 - 1), 24}, step{i32(1), 0, high, 24}, step{low, 0, i64(-1), 24})
	wantSteps(t, accum.Sum, i32(0), 20, step{i32(-1), 0, i32(-1), 20}, step{low, api.ErrRange, i32(-1), 20}, step{i32(1), 0, i32(0), 20}, step{low, 0, low, 24},
		step{i32(-1), api.ErrRange, low, 24}, step{low, api.ErrRange, low, 24}, step{missing, 0, low, 24}, step{null, 0, low, 24}, step{high, 0, i64(-1), 24})
	wantSteps(t, accum.Sum, i32(0), 20, step{i32(1), 0, i32(1), 20}, step{high, api.ErrRange, i32(1), 20}, step{i32(1), 0, i32(2), 20})
}

// TestAlikeOnes has the first stay, of which the kinds tell.
func TestAlikeOnes(t *testing.T) {
	for _, x := range []struct{ a, b api.Value }{
		{i32(1), i64(1)}, {i64(1), i32(1)}, {is("a", i32(1)), is("a", i64(1))}, {list(null, i64(1)), list(null, i32(1))},
		{api.Value{Kind: api.Least, N: 1}, least}, {none(13), none(-1)}, {i32(1 << 40), i64(1 << 40)},
		{api.Value{Kind: api.Text, S: "a", N: 1}, text("a")},
	} {
		if order.Compare(x.a, x.b) != 0 {
			t.Fatal(show(x.a), show(x.b))
		}
		for _, kind := range []int{accum.Least, accum.Greatest} {
			wantValue(t, kind, x.a, x.a, x.b)
			wantValue(t, kind, x.b, x.b, x.a)
			wantValue(t, kind, x.a, x.a, x.b, x.a, missing, x.b, null)
		}
	}
	for _, x := range []struct{ a, b api.Value }{{i32(1), i64(1)}, {i64(1), i32(1)}, {is("a", i32(1)), is("a", i64(1))}, {list(null, i64(1)), list(null, i32(1))}, {list(is("a", list(i64(0)))), list(is("a", list(i32(0))))}} {
		wantValue(t, accum.Set, list(x.a), x.a, x.b, x.b, x.a)
		wantValue(t, accum.Set, list(null, x.b, yes), null, x.b, yes, x.a, x.b)
		wantValue(t, accum.Push, list(x.a, x.b), x.a, x.b)
	}
}

// TestOutermostOfAll has values of all kinds, whichever way round they come.
func TestOutermostOfAll(t *testing.T) {
	for i, a := range plain() {
		for j, b := range plain() {
			low, high := a, a
			if order.Compare(b, a) < 0 {
				low = b
			}
			if order.Compare(b, a) > 0 {
				high = b
			}
			wantValue(t, accum.Least, low, a, b)
			wantValue(t, accum.Greatest, high, a, b)
			wantValue(t, accum.Least, low, null, a, missing, b, null)
			wantValue(t, accum.Greatest, high, null, a, missing, b, null)
			if t.Failed() {
				t.Fatal(i, j)
			}
		}
	}
}

// TestOutermostOfNothing has Null stay no value, though it goes below all but Least.
func TestOutermostOfNothing(t *testing.T) {
	for _, kind := range []int{accum.Least, accum.Greatest} {
		wantValue(t, kind, null)
		wantValue(t, kind, null, missing)
		wantValue(t, kind, null, null)
		wantValue(t, kind, null, missing, null, null, missing)
		wantValue(t, kind, least, null, least, null)
		wantValue(t, kind, null, api.Value{Kind: api.Null, N: 5}, api.Value{Kind: api.Missing, S: "x"})
	}
	wantValue(t, accum.Least, i32(5), i32(5), null)
	wantValue(t, accum.Greatest, least, least, null)
	wantValue(t, accum.Greatest, none(13), none(13), null, missing)
}

// TestListsAreOneValue has a List that comes be held against others whole, not by its items.
func TestListsAreOneValue(t *testing.T) {
	l := list(i32(9), i32(1))
	wantValue(t, accum.Sum, i32(2), l, i32(2))
	wantValue(t, accum.Least, i32(5), l, i32(5))
	wantValue(t, accum.Greatest, l, l, i32(5))
	wantValue(t, accum.Push, list(l, i32(1), list()), l, i32(1), list())
	wantValue(t, accum.Set, list(l, i32(1), i32(9), list()), l, i32(1), i32(9), l, list())
	wantValue(t, accum.Set, list(l, list(i32(1), i32(9))), l, list(i32(1), i32(9)), list(i64(9), i32(1)))
	wantValue(t, accum.Set, list(is("a", i32(1)), is("b", i32(1)), is("a", i32(2)), is("a", text(""))), is("a", i32(1)), is("b", i32(1)), is("a", i64(1)), is("a", i32(2)), is("a", text("")), is("b", i64(1)))
}

// TestFirstAndLastAreTakenByPlace has what is Missing be the first or the last one, too.
func TestFirstAndLastAreTakenByPlace(t *testing.T) {
	for _, gone := range row(missing, null, api.Value{Kind: api.Missing, N: 5, S: "x"}) {
		wantValue(t, accum.First, null, gone)
		wantValue(t, accum.First, null, gone, i32(1))
		wantValue(t, accum.First, null, gone, missing, i32(1), i32(2))
		wantValue(t, accum.First, i32(1), i32(1), gone, i32(2))
		wantValue(t, accum.Last, null, gone)
		wantValue(t, accum.Last, null, i32(1), gone)
		wantValue(t, accum.Last, i32(2), i32(1), gone, i32(2))
	}
	for _, v := range plain() {
		wantValue(t, accum.First, v, v, i32(99))
		wantValue(t, accum.Last, v, i32(99), v)
	}
}

// TestSetKeepsOrder has what came first stand first, whichever way Compare has them.
func TestSetKeepsOrder(t *testing.T) {
	var l, twice []api.Value
	for n := range int64(300) {
		v := i32(n * 7919 % 300)
		l = append(l, v)
		twice = append(twice, v, i64(n*7919%300), l[n/2])
	}
	wantValue(t, accum.Set, list(l...), twice...)
	wantValue(t, accum.Set, list(greatest, date(1), i32(5), null, least), greatest, date(1), i32(5), null, least, null, i64(5), date(1), greatest, least, missing)
}

func TestCountOfMany(t *testing.T) {
	const many = 100000
	s := made(t, accum.Count)
	for n := range int64(many) {
		if n&(n-1) == 0 {
			wantState(t, s, "Count", i32(n), 16)
		}
		if e := s.Add(plain()[n%20]); e != api.OK {
			t.Fatal(e)
		}
	}
	wantState(t, s, "Count", i32(many), 16)
}
