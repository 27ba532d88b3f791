package key_test

import (
	"math"
	"math/rand"
	"slices"
	"testing"

	"aqueduct/api"
	"aqueduct/bson"
	"aqueduct/order"
)

// chance makes values of few bytes and few numbers, so that many are alike or nearly so.
type chance struct{ *rand.Rand }

func (c chance) spelling() string {
	b := make([]byte, c.Intn(4))
	for i := range b {
		b[i] = []byte{0, 0, 1, 'a', 0xfe, 0xff}[c.Intn(6)]
	}
	return string(b)
}

func (c chance) number() int64 {
	if c.Intn(3) == 0 {
		return int64(c.Uint64()) >> c.Intn(64)
	}
	l := []int64{0, 1, -1, 255, 256, -256, math.MaxInt32, math.MinInt32, math.MaxInt32 + 1, math.MinInt64, math.MaxInt64}
	return l[c.Intn(len(l))]
}

// value is one of any kind, some of which may not be.
func (c chance) value(depth int) api.Value {
	kind := c.Intn(api.Greatest+3) - 1
	if depth > 0 && c.Intn(3) == 0 {
		kind = api.Doc + c.Intn(2)
	}
	v := api.Value{Kind: kind, N: c.number(), S: c.spelling(), B: []byte(c.spelling())}
	for range c.Intn(4) * min(depth, 1) {
		v.F = append(v.F, as(c.spelling(), c.value(depth-1)))
		v.L = append(v.L, c.value(depth-1))
	}
	return v
}

// near is v with one thing in it made anew, or nothing.
func (c chance) near(v api.Value, depth int) api.Value {
	v = bson.Copy(v)
	switch n := c.Intn(8); {
	case n == 0:
		return c.value(max(depth, 0))
	case v.Kind == api.Doc && len(v.F) > 0 && n < 3:
		v.F[c.Intn(len(v.F))].Name = c.spelling()
	case v.Kind == api.Doc && len(v.F) > 0 && n < 6:
		f := &v.F[c.Intn(len(v.F))]
		f.V = c.near(f.V, depth-1)
	case v.Kind == api.Doc:
		v.F = append(v.F, as(c.spelling(), c.value(0)))[c.Intn(2):]
	case v.Kind == api.List && len(v.L) > 0 && n < 6:
		i := c.Intn(len(v.L))
		v.L[i] = c.near(v.L[i], depth-1)
	case v.Kind == api.List:
		v.L = append(v.L, c.value(0))[c.Intn(2):]
	case v.Kind == api.Int32 || v.Kind == api.Int64:
		v.Kind = api.Int32 + api.Int64 - v.Kind
	case n < 4:
		v.N, v.S, v.B = v.N+1, v.S+"\x00", append(v.B, 0)
	}
	return v
}

// TestAgainstBy has any two rows of one length, both ways round.
func TestAgainstBy(t *testing.T) {
	c := chance{rand.New(rand.NewSource(23))}
	var seen [3]int
	for range 30000 {
		var a, b []api.Value
		for range c.Intn(5) {
			v := c.value(3)
			a = append(a, v)
			b = append(b, c.near(v, 3))
			if c.Intn(6) == 0 {
				b[len(b)-1] = c.value(3)
			}
		}
		down := make([]bool, c.Intn(7))
		for i := range down {
			down[i] = c.Intn(2) == 0
		}
		want := order.By(a, b, down)
		wantRows(t, a, b, down, want)
		seen[want+1]++
	}
	if slices.Min(seen[:]) < 2500 {
		t.Error(seen)
	}
}

// TestAnyTwoOfMany has any two of many rows that are near each other.
func TestAnyTwoOfMany(t *testing.T) {
	c := chance{rand.New(rand.NewSource(24))}
	for i := range 40 {
		first := c.value(4)
		var rows [][]api.Value
		for range 60 {
			rows = append(rows, row(c.near(first, 4), c.value(1), c.near(first, 4)))
		}
		wantAll(t, rows, []bool{i%2 == 0, i%4 < 2, i%8 < 4})
	}
}
