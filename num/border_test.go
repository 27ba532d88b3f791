package num_test

import (
	"testing"

	"aqueduct/api"
	"aqueduct/num"
)

// at is a call whose number is known, n, or none, where it does not go into 64 bits.
type at struct {
	f    named
	a, b int64
	n    int64
}

var (
	add = named{"Add", num.Add}
	sub = named{"Sub", num.Sub}
	mul = named{"Mul", num.Mul}
	div = named{"Div", num.Div}
	mod = named{"Mod", num.Mod}
)

// TestBordersOf32Bits has Int32 alone go over to Int64 one beyond the border, and Int64 stay one on both sides of it.
func TestBordersOf32Bits(t *testing.T) {
	for _, x := range []at{
		{add, high32, 0, high32}, {add, high32, 1, high32 + 1}, {add, 1, high32, high32 + 1}, {add, high32 - 1, 1, high32},
		{add, low32, 0, low32}, {add, low32, -1, low32 - 1}, {add, -1, low32, low32 - 1}, {add, low32 + 1, -1, low32},
		{add, high32, high32, 1<<32 - 2}, {add, low32, low32, -1 << 32}, {add, low32, high32, -1},
		{sub, high32, -1, high32 + 1}, {sub, high32 - 1, -1, high32}, {sub, low32, 1, low32 - 1}, {sub, low32 + 1, 1, low32},
		{sub, 0, low32, high32 + 1}, {sub, -1, low32, high32}, {sub, 0, high32, -high32}, {sub, -1, high32, low32}, {sub, -2, high32, low32 - 1},
		{sub, high32, low32, 1<<32 - 1}, {sub, low32, high32, -1<<32 + 1}, {sub, low32, low32, 0},
		{mul, low32, -1, high32 + 1}, {mul, -1, low32, high32 + 1}, {mul, high32, -1, -high32}, {mul, low32, 1, low32},
		{mul, 1 << 16, 1 << 15, high32 + 1}, {mul, 1 << 16, -1 << 15, low32}, {mul, 1<<16 - 1, 1<<15 + 1, 1<<31 + 1<<15 - 1}, {mul, 65537, 32767, 1<<31 - 1<<15 - 1},
		{mul, 715827883, 3, high32 + 2}, {mul, 715827882, 3, high32 - 1}, {mul, 715827883, -3, low32 - 1}, {mul, -715827882, 3, low32 + 2},
		{mul, low32, low32, 1 << 62}, {mul, high32, high32, 1<<62 - 1<<32 + 1}, {mul, low32, high32, -1<<62 + 1<<31},
		{div, low32, -1, high32 + 1}, {div, low32, 1, low32}, {div, high32, -1, -high32}, {div, low32 + 1, -1, high32}, {div, low32, -2, 1 << 30},
		{mod, low32, -1, 0}, {mod, low32, high32, -1}, {mod, high32, low32, high32}, {mod, low32 + 1, low32, low32 + 1},
	} {
		want := i32(x.n)
		if x.n > high32 || x.n < low32 {
			want = i64(x.n)
		}
		x.f.want(t, i32(x.a), i32(x.b), want, api.OK)
		x.f.want(t, i32(x.a), i64(x.b), i64(x.n), api.OK)
		x.f.want(t, i64(x.a), i32(x.b), i64(x.n), api.OK)
		x.f.want(t, i64(x.a), i64(x.b), i64(x.n), api.OK)
	}
}

// TestBordersOf64Bits has the results that just go into them.
func TestBordersOf64Bits(t *testing.T) {
	for _, x := range []at{
		{add, high64, 0, high64}, {add, high64 - 1, 1, high64}, {add, 1, high64 - 1, high64}, {add, high64, -1, high64 - 1}, {add, 1 << 62, 1<<62 - 1, high64},
		{add, low64, 0, low64}, {add, low64 + 1, -1, low64}, {add, -1, low64 + 1, low64}, {add, low64, 1, low64 + 1}, {add, -1 << 62, -1 << 62, low64},
		{add, low64, high64, -1}, {add, high64, low64, -1},
		{sub, high64, 0, high64}, {sub, high64 - 1, -1, high64}, {sub, low64 + 1, 1, low64}, {sub, low64, 0, low64}, {sub, low64, -1, low64 + 1}, {sub, high64, 1, high64 - 1},
		{sub, -1, low64, high64}, {sub, -2, low64, high64 - 1}, {sub, -1, high64, low64}, {sub, 0, high64, low64 + 1}, {sub, 0, low64 + 1, high64},
		{sub, low64, low64, 0}, {sub, high64, high64, 0}, {sub, 1 << 62, -1<<62 + 1, high64}, {sub, -1 << 62, 1 << 62, low64},
		{mul, high64, 1, high64}, {mul, high64, -1, low64 + 1}, {mul, -1, high64, low64 + 1}, {mul, low64, 1, low64}, {mul, 1, low64, low64}, {mul, low64 + 1, -1, high64},
		{mul, 1 << 62, -2, low64}, {mul, -2, 1 << 62, low64}, {mul, -1 << 62, 2, low64}, {mul, 1 << 32, -1 << 31, low64}, {mul, -1 << 31, 1 << 32, low64},
		{mul, 7 * 7 * 73 * 127, 337 * 92737 * 649657, high64}, {mul, -7 * 7 * 73 * 127, -337 * 92737 * 649657, high64}, {mul, 7, -1317624576693539401, low64 + 1},
		{mul, 3037000499, 3037000499, 9223372030926249001}, {mul, -3037000499, 3037000499, -9223372030926249001},
		{div, low64, 1, low64}, {div, low64 + 1, -1, high64}, {div, high64, -1, low64 + 1}, {div, low64, -2, 1 << 62}, {div, low64, low64, 1}, {div, -1, low64, 0}, {div, 1, low64, 0},
		{mod, low64, -1, 0}, {mod, low64, 1, 0}, {mod, low64, low64, 0}, {mod, -1, low64, -1}, {mod, high64, -1, 0}, {mod, low64 + 1, low64, low64 + 1},
	} {
		x.wantEachKind(t, i64(x.n), api.OK)
	}
}

// TestBeyond64Bits has ErrRange from one beyond the borders on.
func TestBeyond64Bits(t *testing.T) {
	for _, x := range []at{
		{f: add, a: high64, b: 1}, {f: add, a: 1, b: high64}, {f: add, a: high64, b: high64}, {f: add, a: 1 << 62, b: 1 << 62}, {f: add, a: high64, b: high32},
		{f: add, a: low64, b: -1}, {f: add, a: -1, b: low64}, {f: add, a: low64, b: low64}, {f: add, a: -1 << 62, b: -1<<62 - 1}, {f: add, a: low64, b: low32},
		{f: sub, a: high64, b: -1}, {f: sub, a: high64, b: low64}, {f: sub, a: 0, b: low64}, {f: sub, a: 1, b: low64}, {f: sub, a: 1 << 62, b: -1 << 62},
		{f: sub, a: low64, b: 1}, {f: sub, a: low64, b: high64}, {f: sub, a: -2, b: high64}, {f: sub, a: -1 << 62, b: 1<<62 + 1},
		{f: mul, a: low64, b: -1}, {f: mul, a: -1, b: low64}, {f: mul, a: low64, b: 2}, {f: mul, a: 2, b: low64}, {f: mul, a: low64, b: -2}, {f: mul, a: low64, b: low64},
		{f: mul, a: high64, b: 2}, {f: mul, a: high64, b: -2}, {f: mul, a: -2, b: high64}, {f: mul, a: high64, b: high64}, {f: mul, a: high64, b: low64}, {f: mul, a: low64, b: high64},
		{f: mul, a: 1 << 62, b: 2}, {f: mul, a: -1 << 62, b: -2}, {f: mul, a: 1 << 32, b: 1 << 31}, {f: mul, a: 1 << 31, b: 1 << 32}, {f: mul, a: -1 << 31, b: -1 << 32},
		{f: mul, a: 1 << 32, b: 1 << 32}, {f: mul, a: 1 << 33, b: -1 << 31}, {f: mul, a: 1<<31 + 1, b: -1 << 32}, {f: mul, a: 1<<32 + 1, b: 1<<32 - 1},
		{f: mul, a: 3037000500, b: 3037000500}, {f: mul, a: -3037000500, b: 3037000500}, {f: mul, a: 7, b: 1317624576693539402}, {f: mul, a: -7, b: 1317624576693539402},
		{f: div, a: low64, b: -1},
	} {
		x.wantEachKind(t, missing, api.ErrRange)
	}
}

// wantEachKind has x of Int64s, and of an Int32 where a number goes into one.
func (x at) wantEachKind(t *testing.T, v api.Value, e api.Errno) {
	t.Helper()
	x.f.want(t, i64(x.a), i64(x.b), v, e)
	if low32 <= x.a && x.a <= high32 {
		x.f.want(t, i32(x.a), i64(x.b), v, e)
	}
	if low32 <= x.b && x.b <= high32 {
		x.f.want(t, i64(x.a), i32(x.b), v, e)
	}
}
