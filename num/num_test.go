package num_test

import (
	"testing"

	"aqueduct/api"
	"aqueduct/num"
)

func TestOf(t *testing.T) {
	for _, n := range []int64{0, 1, -1, 5, 255, 256, -65536, high32 - 1, high32, low32 + 1, low32} {
		wantValue(t, "Of", answer{num.Of(n), api.OK}, answer{i32(n), api.OK})
	}
	for _, n := range []int64{high32 + 1, high32 + 2, low32 - 1, low32 - 2, 1<<32 - 1, 1 << 32, 1<<32 + 1, -1 << 32, -1<<32 - 1, 1<<53 + 1, high64 - 1, high64, low64 + 1, low64} {
		wantValue(t, "Of", answer{num.Of(n), api.OK}, answer{i64(n), api.OK})
	}
}

// TestTheChaptersExamples has those of its table.
func TestTheChaptersExamples(t *testing.T) {
	named{"Add", num.Add}.want(t, i32(2147483647), i32(1), i64(2147483648), api.OK)
	named{"Div", num.Div}.want(t, i64(-1<<63), i32(-1), missing, api.ErrRange)
	named{"Div", num.Div}.want(t, i64(-1<<63), i64(-1), missing, api.ErrRange)
}

// TestOrdinaryNumbers has each function in each two kinds: Int64 if one is.
func TestOrdinaryNumbers(t *testing.T) {
	for i, f := range functions() {
		for _, x := range []struct {
			a, b int64
			want [5]int64 // in the order of functions
		}{
			{7, 2, [5]int64{9, 5, 14, 3, 1}},
			{2, 7, [5]int64{9, -5, 14, 0, 2}},
			{6, 3, [5]int64{9, 3, 18, 2, 0}},
			{0, 5, [5]int64{5, -5, 0, 0, 0}},
			{5, 1, [5]int64{6, 4, 5, 5, 0}},
			{5, -1, [5]int64{4, 6, -5, -5, 0}},
			{-12, -12, [5]int64{-24, 0, 144, 1, 0}},
			{1000, 999, [5]int64{1999, 1, 999000, 1, 1}},
		} {
			f.want(t, i32(x.a), i32(x.b), i32(x.want[i]), api.OK)
			f.want(t, i64(x.a), i64(x.b), i64(x.want[i]), api.OK)
			f.want(t, i32(x.a), i64(x.b), i64(x.want[i]), api.OK)
			f.want(t, i64(x.a), i32(x.b), i64(x.want[i]), api.OK)
		}
	}
}

// TestNoughtOnEitherSide has what 0 does where it does not divide.
func TestNoughtOnEitherSide(t *testing.T) {
	for _, n := range []int64{0, 1, -1, high32, low32, high32 + 1, low32 - 1, high64, low64 + 1} {
		named{"Add", num.Add}.want(t, i64(n), i32(0), i64(n), api.OK)
		named{"Add", num.Add}.want(t, i32(0), i64(n), i64(n), api.OK)
		named{"Sub", num.Sub}.want(t, i64(n), i32(0), i64(n), api.OK)
		named{"Sub", num.Sub}.want(t, i32(0), i64(n), i64(-n), api.OK)
		named{"Mul", num.Mul}.want(t, i64(n), i32(0), i64(0), api.OK)
		named{"Mul", num.Mul}.want(t, i32(0), i64(n), i64(0), api.OK)
	}
	named{"Mul", num.Mul}.want(t, i32(0), i64(low64), i64(0), api.OK)
	named{"Mul", num.Mul}.want(t, i64(low64), i32(0), i64(0), api.OK)
	named{"Mul", num.Mul}.want(t, i32(0), i32(low32), i32(0), api.OK)
	named{"Div", num.Div}.want(t, i32(0), i64(low64), i64(0), api.OK)
	named{"Mod", num.Mod}.want(t, i32(0), i64(low64), i64(0), api.OK)
}

// TestSignsOfDivision has the quotient go towards nought, and the rest with the sign of a.
func TestSignsOfDivision(t *testing.T) {
	for _, x := range []struct{ a, b, quotient, rest int64 }{
		{7, 2, 3, 1}, {-7, 2, -3, -1}, {7, -2, -3, 1}, {-7, -2, 3, -1},
		{1, 2, 0, 1}, {-1, 2, 0, -1}, {1, -2, 0, 1}, {-1, -2, 0, -1},
		{6, 2, 3, 0}, {-6, 2, -3, 0}, {6, -2, -3, 0}, {-6, -2, 3, 0},
		{9, 5, 1, 4}, {-9, 5, -1, -4}, {9, -5, -1, 4}, {-9, -5, 1, -4},
	} {
		wantDivided(t, i32(x.a), i32(x.b), i32(x.quotient), i32(x.rest))
		wantDivided(t, i64(x.a), i64(x.b), i64(x.quotient), i64(x.rest))
		wantDivided(t, i32(x.a), i64(x.b), i64(x.quotient), i64(x.rest))
		wantDivided(t, i64(x.a), i32(x.b), i64(x.quotient), i64(x.rest))
	}
	wantDivided(t, i64(high64), i32(2), i64(1<<62-1), i64(1))
	wantDivided(t, i64(low64+1), i32(2), i64(-1<<62+1), i64(-1))
	wantDivided(t, i64(low64), i32(3), i64(-3074457345618258602), i64(-2))
	wantDivided(t, i64(low64), i64(high64), i64(-1), i64(-1))
	wantDivided(t, i64(high64), i64(low64), i64(0), i64(high64))
}

func wantDivided(t *testing.T, a, b, quotient, rest api.Value) {
	t.Helper()
	named{"Div", num.Div}.want(t, a, b, quotient, api.OK)
	named{"Mod", num.Mod}.want(t, a, b, rest, api.OK)
}

func TestAbs(t *testing.T) {
	for _, n := range []int64{0, 1, 2, 7, high32 - 1, high32} {
		wantAbs(t, i32(n), i32(n), api.OK)
		wantAbs(t, i32(-n), i32(n), api.OK)
		wantAbs(t, i64(n), i64(n), api.OK)
		wantAbs(t, i64(-n), i64(n), api.OK)
	}
	wantAbs(t, i32(low32), i64(high32+1), api.OK)
	wantAbs(t, i64(low32), i64(high32+1), api.OK)
	wantAbs(t, i64(low32-1), i64(high32+2), api.OK)
	wantAbs(t, i64(high64), i64(high64), api.OK)
	wantAbs(t, i64(-high64), i64(high64), api.OK)
	wantAbs(t, i64(low64), missing, api.ErrRange)
}

// TestHandedOn has each function do the same as a value, one of Abs too.
func TestHandedOn(t *testing.T) {
	var n api.Value = i32(20)
	for _, do := range []function{num.Add, num.Sub, num.Mul, num.Div, num.Mod} {
		var e api.Errno
		if n, e = do(n, i32(3)); e != api.OK {
			t.Fatal(e)
		}
	}
	wantValue(t, "20 + 3 - 3 * 3 / 3 mod 3", answer{n, api.OK}, answer{i32(2), api.OK})
	var one func(api.Value) (api.Value, api.Errno) = num.Abs
	wantValue(t, "Abs", answerOf(one(i32(-2))), answer{i32(2), api.OK})
	var of func(int64) api.Value = num.Of
	wantValue(t, "Of", answer{of(2), api.OK}, answer{i32(2), api.OK})
}
