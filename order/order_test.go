package order_test

import (
	"cmp"
	"math"
	"slices"
	"testing"

	"aqueduct/api"
	"aqueduct/bson"
	"aqueduct/order"
)

func TestExamplesOfTheChapter(t *testing.T) {
	wantCompare(t, i32(1), i64(1), 0)
	wantCompare(t, null, i32(-5), -1)
}

func TestClassOfEachKind(t *testing.T) {
	for kind, want := range map[int]int{
		api.Missing: 0, api.Least: 1, api.Null: 2, api.Int32: 3, api.Int64: 3, api.Text: 4, api.Doc: 5, api.List: 6,
		api.Bytes: 7, api.Id: 8, api.Bool: 9, api.Date: 10, api.Greatest: 11,
	} {
		if got := order.Class(kind); got != want {
			t.Errorf("kind %d: %d, want %d", kind, got, want)
		}
	}
}

func TestClassOfWhatIsNoKind(t *testing.T) {
	for _, kind := range []int{-1, -2, 13, 14, 127, 255, 256, 1 << 16, 1<<32 + 3, -1 << 32, math.MinInt, math.MaxInt} {
		if got := order.Class(kind); got != -1 {
			t.Errorf("kind %d: %d, want -1", kind, got)
		}
	}
	for kind := api.Greatest + 1; kind < 1000; kind++ {
		if order.Class(kind) != -1 || order.Class(-kind) != -1 {
			t.Errorf("kind %d or %d has a rank", kind, -kind)
		}
	}
}

// TestLadder has each pair of values, both ways round, and each held against itself.
func TestLadder(t *testing.T) {
	steps := ladder()
	for i, step := range steps {
		for j, other := range steps {
			for _, a := range step {
				for _, b := range other {
					wantCompare(t, a, b, cmp.Compare(i, j))
				}
			}
			endIfFailed(t)
		}
	}
}

// TestLadderWithin has the same pairs within documents and Lists.
func TestLadderWithin(t *testing.T) {
	for _, a := range all() {
		for _, b := range all() {
			want := order.Compare(a, b)
			wantCompare(t, is("x", a), is("x", b), want)
			wantCompare(t, list(a), list(b), want)
			wantCompare(t, list(null, is("x", list(a)), null), list(null, is("x", list(b)), greatest), cmp.Or(want, -1))
			wantCompare(t, docs(is("x", null), is("y", a)), docs(is("x", null), is("y", b), is("z", a)), cmp.Or(want, -1))
			byName := -1
			if order.Class(a.Kind) != order.Class(b.Kind) {
				byName = want
			}
			wantCompare(t, is("x", a), is("y", b), byName)
			endIfFailed(t)
		}
	}
}

// TestWhatIsBesideAKind has all values with fields set that their kind does not have: nothing hangs on them.
func TestWhatIsBesideAKind(t *testing.T) {
	for _, a := range all() {
		for _, b := range all() {
			want := order.Compare(a, b)
			wantCompare(t, beside(a, 1), beside(b, 2), want)
			wantCompare(t, beside(a, 2), beside(b, 1), want)
			wantCompare(t, beside(a, 1), b, want)
			endIfFailed(t)
		}
	}
}

// TestOneOrder has any three values: what is not behind the second, which is not behind the third, is not behind the third; and what is alike is alike to all others.
func TestOneOrder(t *testing.T) {
	wantOneOrder(t, all())
}

func wantOneOrder(t *testing.T, l []api.Value) {
	t.Helper()
	table := make([][]int, len(l))
	for i, a := range l {
		for j, b := range l {
			table[i] = append(table[i], order.Compare(a, b))
			if n := table[i][j]; n < -1 || n > 1 || i == j && n != 0 || j < i && n != -table[j][i] {
				t.Fatalf("Compare of %s and %s: %d", show(a), show(b), n)
			}
		}
	}
	for i := range l {
		for j := range l {
			for k := range l {
				ij, jk, ik := table[i][j], table[j][k], table[i][k]
				if ij == 0 && ik != jk || ij == jk && ik != ij {
					t.Fatalf("%s, %s, %s: the first to the second %d, to the third %d, the second to the third %d", show(l[i]), show(l[j]), show(l[k]), ij, ik, jk)
				}
			}
		}
	}
}

// TestCompareChangesNothing has all values stay as they are.
func TestCompareChangesNothing(t *testing.T) {
	l := all()
	same := bson.Copy(list(l...))
	for _, a := range l {
		for _, b := range l {
			order.Compare(a, b)
		}
	}
	if !bson.Same(list(l...), same) {
		t.Error("a value was changed")
	}
}

// TestSortByCompare has the ladder come back from another order.
func TestSortByCompare(t *testing.T) {
	l := all()
	mixed := slices.Clone(l)
	slices.Reverse(mixed)
	slices.SortStableFunc(mixed, order.Compare)
	for i := range l {
		if order.Compare(l[i], mixed[i]) != 0 {
			t.Errorf("at %d: %s, want %s", i, show(mixed[i]), show(l[i]))
		}
	}
}

// TestDeep has documents and Lists within each other as deep as they may be, and deeper.
func TestDeep(t *testing.T) {
	for _, depth := range []int{1, 2, api.MaxDepth - 1, api.MaxDepth, api.MaxDepth + 1, api.MaxDepth + 2, api.MaxDepth + 3, 1000, 1<<16 - 2} {
		for _, wrap := range []func(v api.Value, i int) api.Value{
			func(v api.Value, i int) api.Value { return is("a", v) },
			func(v api.Value, i int) api.Value { return list(v) },
			func(v api.Value, i int) api.Value {
				if i%2 == 0 {
					return docs(is("a", null), is("b", v))
				}
				return list(i32(1), v)
			},
		} {
			deep := func(v api.Value) api.Value {
				for i := range depth {
					v = wrap(v, i)
				}
				return v
			}
			wantCompare(t, deep(i32(1)), deep(i64(1)), 0)
			wantCompare(t, deep(i32(1)), deep(i64(2)), -1)
			wantCompare(t, deep(text("b")), deep(text("a")), 1)
			wantCompare(t, deep(greatest), deep(null), 1)
			wantCompare(t, deep(doc()), deep(is("a", missing)), -1)
			wantCompare(t, deep(list()), deep(list(missing)), -1)
		}
	}
}

// TestLong has many fields, many items, long texts, which differ at their ends.
func TestLong(t *testing.T) {
	const many = 5000
	var l []api.Value
	var f []api.Field
	b := make([]byte, many)
	for i := range many {
		l = append(l, i32(int64(i)))
		f = append(f, api.Field{Name: string(rune('a' + i%26)), V: i32(int64(i))})
	}
	wantCompare(t, list(l...), list(slices.Clone(l)...), 0)
	wantCompare(t, list(l...), list(l[:many-1]...), 1)
	wantCompare(t, list(l...), list(append(slices.Clone(l[:many-1]), i32(many))...), -1)
	wantCompare(t, doc(f...), doc(slices.Clone(f)...), 0)
	wantCompare(t, doc(f...), doc(f[:many-1]...), 1)
	wantCompare(t, doc(f...), docs(doc(f[:many-1]...), is("z", i32(0))), -1)
	wantCompare(t, text(string(b)), text(string(b[1:])), 1)
	wantCompare(t, text(string(b)), text(string(b[1:])+"\x01"), -1)
	wantCompare(t, raw(string(b)), raw("\xff"), 1)
	wantCompare(t, raw(string(b)), raw(string(b[1:])+"\x01"), -1)
}
