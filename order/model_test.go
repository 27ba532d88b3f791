package order_test

import (
	"bytes"
	"encoding/binary"
	"math"
	"math/rand"
	"slices"
	"testing"

	"aqueduct/api"
	"aqueduct/bson"
)

// The model makes bytes of a value, which are in the value's order: nothing of the values is compared but these bytes.

// rankModel are the kinds in their order, the two of numbers at one place.
var rankModel = [][]int{{api.Missing}, {api.Least}, {api.Null}, {api.Int32, api.Int64}, {api.Text}, {api.Doc}, {api.List}, {api.Bytes}, {api.Id}, {api.Bool}, {api.Date}, {api.Greatest}}

// rank is 0 of what is no kind.
func rank(kind int) byte {
	return byte(1 + slices.IndexFunc(rankModel, func(l []int) bool { return slices.Contains(l, kind) }))
}

// stuffed is a text with an end that is below all that goes on.
func stuffed(s []byte) []byte {
	return append(bytes.ReplaceAll(s, []byte{0}, []byte{0, 1}), 0, 0)
}

func numbered(n uint64) []byte { return binary.BigEndian.AppendUint64(nil, n) }

// laid are the bytes of a value, its rank at the front.
func laid(v api.Value) []byte { return append([]byte{rank(v.Kind)}, laidBehind(v)...) }

func laidBehind(v api.Value) []byte {
	var b []byte
	switch v.Kind {
	case api.Int32, api.Int64, api.Bool, api.Date:
		return numbered(uint64(v.N) ^ 1<<63)
	case api.Text:
		return stuffed([]byte(v.S))
	case api.Id:
		return stuffed(v.B)
	case api.Bytes:
		return append(numbered(uint64(len(v.B))), v.B...)
	case api.Doc:
		for _, f := range v.F {
			b = slices.Concat(b, []byte{1, rank(f.V.Kind)}, stuffed([]byte(f.Name)), laidBehind(f.V))
		}
		return append(b, 0)
	case api.List:
		for _, x := range v.L {
			b = slices.Concat(b, []byte{1}, laid(x))
		}
		return append(b, 0)
	}
	return nil
}

// laidRow are the bytes of a row that is filled up to n items, those of a turned item turned.
func laidRow(l []api.Value, down []bool, n int) []byte {
	var all []byte
	for i := range n {
		v := api.Value{}
		if i < len(l) {
			v = l[i]
		}
		b := laid(v)
		if i < len(down) && down[i] {
			for j := range b {
				b[j] = ^b[j]
			}
		}
		all = append(all, b...)
	}
	return all
}

func pick[T any](r *rand.Rand, l ...T) T { return l[r.Intn(len(l))] }

func randomName(r *rand.Rand) string {
	return pick(r, "", "a", "b", "aa", "a\x00", "a\x00b", "\x00", "ab", "\xff")
}

// random is a value like many others, so that many are alike or nearly so; some may not be.
func random(r *rand.Rand, depth int) api.Value {
	kind := r.Intn(17) - 1
	if depth == 0 && (kind == api.Doc || kind == api.List) {
		kind = api.Int32
	}
	v := api.Value{Kind: kind}
	switch kind {
	case api.Int32, api.Int64, api.Bool, api.Date:
		v.N = pick[int64](r, 0, 1, -1, 2, 1<<31-1, -1<<31, 1<<31, 1<<53, 1<<53+1, math.MinInt64, math.MaxInt64)
	case api.Text:
		v.S = randomName(r)
	case api.Bytes, api.Id:
		v.B = []byte(randomName(r))
	case api.Doc, 13, 14:
		v.Kind = api.Doc
		for range r.Intn(4) {
			v.F = append(v.F, api.Field{Name: randomName(r), V: random(r, max(depth-1, 0))})
		}
	case api.List, 15:
		v.Kind = api.List
		for range r.Intn(4) {
			v.L = append(v.L, random(r, max(depth-1, 0)))
		}
	}
	return v
}

// near is v with one thing in it made anew, or the other kind of a number.
func near(r *rand.Rand, v api.Value, depth int) api.Value {
	v = bson.Copy(v)
	switch {
	case v.Kind == api.Doc && len(v.F) > 0 && r.Intn(8) > 0:
		f := &v.F[r.Intn(len(v.F))]
		if r.Intn(3) == 0 {
			f.Name = randomName(r)
		} else {
			f.V = near(r, f.V, depth-1)
		}
	case v.Kind == api.Doc && r.Intn(2) > 0:
		v.F = append(v.F, api.Field{Name: randomName(r), V: random(r, 0)})
	case v.Kind == api.List && len(v.L) > 0 && r.Intn(8) > 0:
		i := r.Intn(len(v.L))
		v.L[i] = near(r, v.L[i], depth-1)
	case v.Kind == api.List && r.Intn(2) > 0:
		v.L = append(v.L, random(r, 0))
	case v.Kind == api.Int32 || v.Kind == api.Int64:
		v.Kind = api.Int32 + api.Int64 - v.Kind
		v.N += pick[int64](r, 0, 0, 0, 1, -1)
	default:
		v = random(r, max(depth, 0))
	}
	return v
}

// TestTheModelItself has the ladder's bytes rise.
func TestTheModelItself(t *testing.T) {
	var ahead []byte
	for _, step := range ladder() {
		for _, v := range step {
			if !bytes.Equal(laid(v), laid(step[0])) {
				t.Errorf("%s and %s are not alike", show(v), show(step[0]))
			}
		}
		if bytes.Compare(ahead, laid(step[0])) >= 0 {
			t.Errorf("%s does not rise", show(step[0]))
		}
		ahead = laid(step[0])
	}
}

func TestCompareAgainstTheModel(t *testing.T) {
	r := rand.New(rand.NewSource(7))
	var seen [3]int
	for range 60000 {
		a := random(r, 4)
		b := near(r, a, 4)
		if r.Intn(4) == 0 {
			b = random(r, 4)
		}
		want := bytes.Compare(laid(a), laid(b))
		wantCompare(t, a, b, want)
		endIfFailed(t)
		seen[want+1]++
	}
	if slices.Min(seen[:]) < 5000 {
		t.Error(seen)
	}
}

// TestOneOrderAtRandom has any three of values at random.
func TestOneOrderAtRandom(t *testing.T) {
	r := rand.New(rand.NewSource(8))
	for range 20 {
		var l []api.Value
		for range 20 {
			v := random(r, 3)
			l = append(l, v, near(r, v, 3), near(r, v, 3))
		}
		wantOneOrder(t, l)
	}
}

func randomRow(r *rand.Rand) []api.Value {
	var l []api.Value
	for range r.Intn(5) {
		l = append(l, random(r, 2))
	}
	return l
}

func TestByAgainstTheModel(t *testing.T) {
	r := rand.New(rand.NewSource(9))
	var seen [3]int
	for range 40000 {
		a, b := randomRow(r), randomRow(r)
		for i := range min(len(a), len(b)) {
			switch r.Intn(4) {
			case 0, 1:
				b[i] = bson.Copy(a[i])
			case 2:
				b[i] = near(r, a[i], 2)
			}
		}
		var down []bool
		for range r.Intn(7) {
			down = append(down, r.Intn(2) == 0)
		}
		n := max(len(a), len(b))
		want := bytes.Compare(laidRow(a, down, n), laidRow(b, down, n))
		wantBy(t, a, b, down, want)
		endIfFailed(t)
		seen[want+1]++
	}
	if slices.Min(seen[:]) < 3000 {
		t.Error(seen)
	}
}

func TestCutAgainstTheModel(t *testing.T) {
	r := rand.New(rand.NewSource(10))
	for range 20000 {
		v := list(randomRow(r)...)
		for range r.Intn(4) {
			if len(v.L) > 0 {
				v.L = append(v.L, near(r, pick(r, v.L...), 2))
			}
		}
		low, high := missing, missing
		for i := len(v.L) - 1; i >= 0; i-- {
			if i == len(v.L)-1 || bytes.Compare(laid(v.L[i]), laid(low)) <= 0 {
				low = v.L[i]
			}
			if i == len(v.L)-1 || bytes.Compare(laid(v.L[i]), laid(high)) >= 0 {
				high = v.L[i]
			}
		}
		wantCut(t, v, false, low)
		wantCut(t, v, true, high)
		endIfFailed(t)
	}
}
