package accum_test

import (
	"bytes"
	"math/big"
	"math/rand"
	"strings"
	"testing"

	"aqueduct/accum"
	"aqueduct/api"
	"aqueduct/bson"
	"aqueduct/key"
)

// The model keeps all that came, and makes of it each time anew what a state should answer: values are held against each other by their keys, numbers have no ends, and a List's length is that of its bytes.

type model struct {
	kind int
	came []api.Value
}

// add answers what Add should, and keeps v where that is OK.
func (m *model) add(v api.Value) api.Errno {
	more := model{m.kind, append(m.came[:len(m.came):len(m.came)], v)}
	switch m.kind {
	case accum.Sum:
		if sum, _ := more.sum(); !sum.IsInt64() {
			return api.ErrRange
		}
	case accum.Push, accum.Set:
		l := more.items()
		if _, e := bson.Encode(is("", list(l...))); e != api.OK && len(l) > len(m.items()) {
			return api.ErrLong
		}
	}
	m.came = more.came
	return api.OK
}

// sum answers the numbers' sum, and whether it is an Int64: one came, or some sum on the way was one.
func (m *model) sum() (*big.Int, bool) {
	sum, wide := new(big.Int), false
	for _, v := range m.came {
		if v.Kind == api.Int32 || v.Kind == api.Int64 {
			sum.Add(sum, big.NewInt(v.N))
			wide = wide || v.Kind == api.Int64 || sum.CmpAbs(big.NewInt(1<<31)) > 0 || sum.Cmp(big.NewInt(1<<31)) == 0
		}
	}
	return sum, wide
}

// items are those of a Push's or of a Set's List.
func (m *model) items() []api.Value {
	var l []api.Value
	seen := map[string]int{}
	for _, v := range m.came {
		k := string(key.Encode(row(v), nil))
		if v.Kind == api.Missing || m.kind == accum.Set && seen[k] > 0 {
			continue
		}
		seen[k]++
		l = append(l, v)
	}
	return l
}

func (m *model) value() api.Value {
	switch m.kind {
	case accum.Sum:
		sum, wide := m.sum()
		if wide {
			return i64(sum.Int64())
		}
		return i32(sum.Int64())
	case accum.Least, accum.Greatest:
		return m.outermost(m.kind == accum.Greatest)
	case accum.Count:
		return i32(int64(len(m.came)))
	case accum.Push, accum.Set:
		return list(m.items()...)
	}
	at := 0
	if m.kind == accum.Last {
		at = len(m.came) - 1
	}
	if len(m.came) == 0 || m.came[at].Kind == api.Missing {
		return null
	}
	return m.came[at]
}

// outermost goes from the end to the beginning, so that the first of alike ones comes last.
func (m *model) outermost(greatest bool) api.Value {
	best, of := []byte(nil), null
	for i := len(m.came) - 1; i >= 0; i-- {
		v := m.came[i]
		if v.Kind == api.Missing || v.Kind == api.Null {
			continue
		}
		if k := key.Encode(row(v), []bool{greatest}); best == nil || bytes.Compare(k, best) <= 0 {
			best, of = k, v
		}
	}
	return of
}

// wantModelled adds v to both.
func (m *model) wantModelled(t *testing.T, s *accum.State, v api.Value) api.Errno {
	t.Helper()
	e := m.add(v)
	wantAdd(t, s, "at random", v, e)
	wantState(t, s, "at random", m.value(), sizeOf(m.kind, m.value()))
	if t.Failed() {
		t.Fatalf("kind %d behind %s", m.kind, show(list(m.came...)))
	}
	return e
}

func pick[T any](r *rand.Rand, l ...T) T { return l[r.Intn(len(l))] }

// random is any value, seldom one that may not be; its lists have few items, so that alike ones come often.
func random(r *rand.Rand, depth int) api.Value {
	switch n := r.Intn(24); {
	case n < 3:
		return i32(int64(r.Intn(4)))
	case n < 6:
		return i64(int64(r.Intn(4)))
	case n < 7:
		return pick(r, i32(high32), i32(low32), i64(high64), i64(low64), i64(high64-1), i64(1<<62), i32(1<<40))
	case n < 9:
		return pick(r, missing, null)
	case n < 12:
		return text(strings.Repeat(pick(r, "a", "b"), r.Intn(3)))
	case n < 13:
		return pick(r, strangers()...)
	case n < 15 || depth == 0:
		return pick(r, plain()...)
	case n < 20:
		v := list()
		for range r.Intn(3) {
			v.L = append(v.L, random(r, depth-1))
		}
		return v
	}
	v := doc()
	for _, name := range []string{"a", "b"} {
		if r.Intn(2) == 0 {
			v.F = append(v.F, api.Field{Name: name, V: random(r, depth-1)})
		}
	}
	return v
}

func TestAgainstTheModelAtRandom(t *testing.T) {
	r := rand.New(rand.NewSource(12))
	for _, kind := range all() {
		told := map[api.Errno]int{}
		for range 400 {
			s, m := made(t, kind), &model{kind: kind}
			for range r.Intn(20) {
				told[m.wantModelled(t, s, random(r, 2))]++
			}
		}
		if told[api.OK] < 1000 || kind == accum.Sum && told[api.ErrRange] < 50 || (kind == accum.Push || kind == accum.Set) && told[api.ErrLong] < 50 {
			t.Errorf("kind %d: %v", kind, told)
		}
	}
}

// TestLongAgainstTheModel has Lists come near their end, with long items and short ones.
func TestLongAgainstTheModel(t *testing.T) {
	r := rand.New(rand.NewSource(13))
	for _, kind := range listKinds() {
		refused, behind := 0, 0
		for range 60 {
			s, m := made(t, kind), &model{kind: kind}
			full := false
			for range 30 {
				v := random(r, 1)
				if r.Intn(2) == 0 {
					v = filler(5 + r.Intn(pick(r, 10, 1000, 20000, 50000)))
				}
				grows := m.wantModelled(t, s, v)
				if grows == api.ErrLong && v.Kind == api.Text {
					refused, full = refused+1, true
				} else if full {
					behind++
				}
			}
		}
		if refused < 50 || behind < 50 {
			t.Errorf("kind %d: %d refused, %d taken behind these", kind, refused, behind)
		}
	}
}
