package num_test

import (
	"math/big"
	"math/rand"
	"slices"
	"testing"

	"aqueduct/api"
	"aqueduct/num"
)

// The model reckons in numbers without ends, and asks only then what goes into how many bits.

func endless(n int64) *big.Int { return big.NewInt(n) }

// reckoned is nil of a division by 0.
func reckoned(name string, a, b *big.Int) *big.Int {
	n := new(big.Int)
	switch name {
	case "Add":
		return n.Add(a, b)
	case "Sub":
		return n.Sub(a, b)
	case "Mul":
		return n.Mul(a, b)
	}
	if b.Sign() == 0 {
		return nil
	}
	q := n.Div(new(big.Int).Abs(a), new(big.Int).Abs(b))
	if a.Sign()*b.Sign() < 0 {
		q.Neg(q)
	}
	if name == "Div" {
		return q
	}
	return new(big.Int).Sub(a, q.Mul(q, b))
}

// goesInto tells whether n lies from -2^(bits-1) to 2^(bits-1) - 1.
func goesInto(n *big.Int, bits uint) bool {
	border := new(big.Int).Lsh(big.NewInt(1), bits-1)
	return n.Cmp(border) < 0 && n.Cmp(border.Neg(border)) >= 0
}

// valued is the answer of numbers of whose kinds one may be Int64.
func valued(n *big.Int, wide bool) answer {
	switch {
	case n == nil:
		return answer{e: api.ErrZero}
	case !goesInto(n, 64):
		return answer{e: api.ErrRange}
	case wide || !goesInto(n, 32):
		return answer{v: i64(n.Int64())}
	}
	return answer{v: i32(n.Int64())}
}

func modelled(name string, a, b api.Value) answer {
	return valued(reckoned(name, endless(a.N), endless(b.N)), a.Kind == api.Int64 || b.Kind == api.Int64)
}

func (f named) wantModelled(t *testing.T, a, b api.Value) answer {
	t.Helper()
	want := modelled(f.name, a, b)
	f.want(t, a, b, want.v, want.e)
	return want
}

func wantAbsModelled(t *testing.T, a api.Value) {
	t.Helper()
	n := endless(a.N)
	want := valued(n.Abs(n), a.Kind == api.Int64)
	wantAbs(t, a, want.v, want.e)
}

func wantOfModelled(t *testing.T, n int64) {
	t.Helper()
	wantValue(t, "Of", answer{num.Of(n), api.OK}, valued(endless(n), false))
}

// kindsOf are the values that n may be.
func kindsOf(n int64) []api.Value {
	if n < low32 || n > high32 {
		return []api.Value{i64(n)}
	}
	return []api.Value{i32(n), i64(n)}
}

// borders are numbers beside one another, about each power of 2, its root in 64 bits, and small ones.
func borders() []int64 {
	l := []int64{low64, low64 + 1, low64 + 2, high64 - 2, high64 - 1, high64, 3037000499, 3037000500, -3037000499, -3037000500}
	for shift := range 63 {
		if n := int64(1) << shift; shift < 4 || shift%8 > 6 || shift%8 < 1 || shift > 29 && shift < 34 || shift > 60 {
			l = append(l, n-1, n, n+1, -n-1, -n, -n+1)
		}
	}
	slices.Sort(l)
	return slices.Compact(l)
}

// TestBordersAgainstTheModel has any two of them, in every kind.
func TestBordersAgainstTheModel(t *testing.T) {
	for _, m := range borders() {
		wantOfModelled(t, m)
		for _, a := range kindsOf(m) {
			wantAbsModelled(t, a)
			for _, n := range borders() {
				for _, b := range kindsOf(n) {
					for _, f := range functions() {
						f.wantModelled(t, a, b)
					}
				}
			}
			endIfFailed(t)
		}
	}
}

// TestSmallNumbersAgainstTheModel has each two of them, whatever their signs.
func TestSmallNumbersAgainstTheModel(t *testing.T) {
	for m := int64(-40); m <= 40; m++ {
		wantAbsModelled(t, i32(m))
		for n := int64(-40); n <= 40; n++ {
			for _, f := range functions() {
				f.wantModelled(t, i32(m), i32(n))
				f.wantModelled(t, i64(m), i32(n))
			}
		}
		endIfFailed(t)
	}
}

// random is a number of any length, in any kind that it may be.
func random(r *rand.Rand) api.Value {
	n := int64(r.Uint64()) >> r.Intn(64)
	if r.Intn(4) == 0 {
		l := borders()
		n = l[r.Intn(len(l))] // at random alone they would be rare
	}
	l := kindsOf(n)
	return l[r.Intn(len(l))]
}

// partner is a number by which f's result of a comes near a border.
func partner(r *rand.Rand, f named, a api.Value) api.Value {
	edges := []int64{low64, high64, low32, high32, low32 - 1, high32 + 1}
	n, edge := new(big.Int), endless(edges[r.Intn(len(edges))])
	switch {
	case f.name == "Add":
		n.Sub(edge, endless(a.N))
	case f.name == "Sub":
		n.Sub(endless(a.N), edge)
	case a.N != 0 && f.name == "Mul":
		n.Quo(edge, endless(a.N))
	case a.N != 0:
		n.Quo(endless(a.N), edge)
	}
	n.Add(n, endless(r.Int63n(5)-2))
	if !n.IsInt64() {
		return random(r)
	}
	l := kindsOf(n.Int64())
	return l[r.Intn(len(l))]
}

// TestAgainstTheModelAtRandom has enough answers of each sort of every function.
func TestAgainstTheModelAtRandom(t *testing.T) {
	r := rand.New(rand.NewSource(9))
	for _, f := range functions() {
		seen := map[string]int{}
		for range 40000 {
			a, b := random(r), random(r)
			if r.Intn(2) == 0 {
				b = partner(r, f, a)
			}
			want := f.wantModelled(t, a, b)
			wantAbsModelled(t, a)
			wantOfModelled(t, a.N)
			endIfFailed(t)
			seen[[]string{"", "", "", "Int32", "Int64"}[want.v.Kind]+want.e.Error()]++
		}
		if seen["Int32ok"] < 1000 || seen["Int64ok"] < 1000 || f.name != "Div" && f.name != "Mod" && seen[api.ErrRange.Error()] < 500 {
			t.Errorf("%s: %v", f.name, seen)
		}
	}
}

// TestQuotientAndRest has both bring a together again.
func TestQuotientAndRest(t *testing.T) {
	r := rand.New(rand.NewSource(10))
	for range 20000 {
		a, b := random(r), random(r)
		q, e := num.Div(a, b)
		if e != api.OK {
			continue
		}
		rest, e := num.Mod(a, b)
		whole, f := num.Mul(q, b)
		again, g := num.Add(whole, rest)
		if e != api.OK || f != api.OK || g != api.OK || again.N != a.N {
			t.Fatalf("%s by %s: %s, rest %s", show(a), show(b), show(q), show(rest))
		}
		if size := endless(rest.N).CmpAbs(endless(b.N)); size >= 0 || rest.N != 0 && (rest.N < 0) != (a.N < 0) {
			t.Fatalf("%s by %s: rest %s", show(a), show(b), show(rest))
		}
	}
}
