package accum_test

import (
	"math"
	"strings"
	"testing"

	"aqueduct/accum"
	"aqueduct/api"
	"aqueduct/bson"
)

func TestExampleOfTheChapter(t *testing.T) {
	wantValue(t, accum.Sum, i32(3), i32(1), text("x"), i32(2))
}

func TestKind(t *testing.T) {
	for i, name := range strings.Fields("$sum $min $max $first $last $push $addToSet $count") {
		if got := accum.Kind(name); got != i+1 || got != all()[name] {
			t.Errorf("Kind of %s: %d, want %d", name, got, i+1)
		}
	}
}

func TestKindOfNoName(t *testing.T) {
	for _, name := range []string{
		"", "$", "sum", "$Sum", "$SUM", "$sum ", " $sum", "$sum\x00", "$$sum", "$su", "$summ", "$avg", "$least", "$greatest", "$set", "$addtoset", "$add", "$min$max",
		"count", "$counts", "\xff", "$s\u00fcm", strings.Repeat("$sum", 100000),
	} {
		if got := accum.Kind(name); got != 0 {
			t.Errorf("Kind of %q: %d", name[:min(len(name), 40)], got)
		}
	}
}

// TestNewOfNoKind has nil, of which all is zero.
func TestNewOfNoKind(t *testing.T) {
	for _, kind := range []int{0, -1, 9, 10, 256 + accum.Sum, 1<<32 + accum.Sum, -accum.Count, math.MinInt, math.MaxInt, accum.Kind("none")} {
		if s := accum.New(kind); s != nil {
			t.Errorf("New of %d is not nil", kind)
		} else {
			wantNothing(t, s)
		}
	}
}

// TestNoState has nil, and a State that New did not make.
func TestNoState(t *testing.T) {
	wantNothing(t, nil)
	wantNothing(t, &accum.State{})
}

func wantNothing(t *testing.T, s *accum.State) {
	t.Helper()
	for _, v := range append(plain(), missing, null, none(13)) {
		if e := s.Add(v); e != api.ErrArg {
			t.Errorf("Add of %s: %v", show(v), e)
		}
		if got, n := s.Value(), s.Size(); !zero(got) || n != 0 {
			t.Errorf("Value %s, Size %d", show(got), n)
		}
	}
}

// TestEachKind has a few ordinary values one behind another, and what is asked behind each.
func TestEachKind(t *testing.T) {
	two, ten, gone, word := i32(2), i64(10), missing, text("abc")
	wantSteps(t, accum.Sum, i32(0), 20, step{two, 0, two, 20}, step{word, 0, two, 20}, step{gone, 0, two, 20}, step{null, 0, two, 20}, step{ten, 0, i64(12), 24}, step{two, 0, i64(14), 24})
	wantSteps(t, accum.Least, null, 16, step{gone, 0, null, 16}, step{null, 0, null, 16}, step{word, 0, word, 24}, step{ten, 0, ten, 24}, step{two, 0, two, 20}, step{ten, 0, two, 20}, step{null, 0, two, 20})
	wantSteps(t, accum.Greatest, null, 16, step{gone, 0, null, 16}, step{null, 0, null, 16}, step{two, 0, two, 20}, step{ten, 0, ten, 24}, step{word, 0, word, 24}, step{two, 0, word, 24}, step{gone, 0, word, 24})
	wantSteps(t, accum.First, null, 16, step{two, 0, two, 20}, step{gone, 0, two, 20}, step{word, 0, two, 20}, step{null, 0, two, 20})
	wantSteps(t, accum.Last, null, 16, step{two, 0, two, 20}, step{word, 0, word, 24}, step{gone, 0, null, 16}, step{ten, 0, ten, 24}, step{null, 0, null, 16})
	wantSteps(t, accum.Push, list(), 21, step{gone, 0, list(), 21}, step{two, 0, list(two), 28}, step{null, 0, list(two, null), 31}, step{gone, 0, list(two, null), 31}, step{two, 0, list(two, null, two), 38}, step{word, 0, list(two, null, two, word), 49})
	wantSteps(t, accum.Set, list(), 21, step{gone, 0, list(), 21}, step{two, 0, list(two), 28}, step{null, 0, list(two, null), 31}, step{null, 0, list(two, null), 31}, step{i64(2), 0, list(two, null), 31}, step{gone, 0, list(two, null), 31}, step{word, 0, list(two, null, word), 42}, step{two, 0, list(two, null, word), 42})
	wantSteps(t, accum.Count, i32(0), 16, step{two, 0, i32(1), 16}, step{gone, 0, i32(2), 16}, step{null, 0, i32(3), 16}, step{word, 0, i32(4), 16})
}

// want is what one value of any kind makes alone: a kind of states by its number.
func want(kind int, v api.Value) api.Value {
	isNumber, isNothing := v.Kind == api.Int32 || v.Kind == api.Int64, v.Kind == api.Missing || v.Kind == api.Null
	switch kind {
	case accum.Sum:
		if isNumber {
			return v
		}
		return i32(0)
	case accum.Count:
		return i32(1)
	case accum.Push, accum.Set:
		if v.Kind == api.Missing {
			return list()
		}
		return list(v)
	}
	if isNothing {
		return null
	}
	return v
}

// TestEachKindOfEachValue has each value alone, by the name and by the constant.
func TestEachKindOfEachValue(t *testing.T) {
	for name, kind := range all() {
		for _, v := range append(plain(), missing, null) {
			wantValue(t, kind, want(kind, v), v)
			wantValue(t, accum.Kind(name), want(kind, v), v)
		}
	}
}

// TestMissingAndNullAnywhere has both first, in between and last.
func TestMissingAndNullAnywhere(t *testing.T) {
	for _, v := range plain() {
		for _, gone := range row(missing, null) {
			for _, l := range [][]api.Value{row(gone, v), row(v, gone), row(gone, v, gone), row(v, gone, v), row(gone, gone, v, gone, v, gone)} {
				for _, kind := range []int{accum.Least, accum.Greatest} {
					wantValue(t, kind, v, l...)
				}
				wantValue(t, accum.Count, i32(int64(len(l))), l...)
				wantValue(t, accum.First, want(accum.First, l[0]), l...)
				wantValue(t, accum.Last, want(accum.Last, l[len(l)-1]), l...)
				var items []api.Value
				for _, x := range l {
					if x.Kind != api.Missing {
						items = append(items, x)
					}
				}
				wantValue(t, accum.Push, list(items...), l...)
				set := row(v)
				if gone.Kind == api.Null {
					set = row(l[0], v)
					if l[0].Kind != api.Null || v.Kind == api.Null {
						set = row(v, gone)
					}
				}
				wantValue(t, accum.Set, list(set...), l...)
			}
		}
	}
}

// TestLongRow has many of all sorts, and Value and Size asked in the end alone.
func TestLongRow(t *testing.T) {
	var l []api.Value
	for range 3 {
		l = append(append(l, plain()...), missing, null)
	}
	wantValue(t, accum.Least, least, l...)
	wantValue(t, accum.Greatest, greatest, l...)
	wantValue(t, accum.First, least, l...)
	wantValue(t, accum.Last, null, l...)
	wantValue(t, accum.Count, i32(81), l...)
	wantValue(t, accum.Sum, i64(3*(1<<40+math.MaxInt32-14)), l...)
	var items []api.Value
	for _, v := range l {
		if v.Kind != api.Missing {
			items = append(items, v)
		}
	}
	wantValue(t, accum.Push, list(items...), l...)
	wantValue(t, accum.Set, list(least, i32(0), i32(-7), i32(math.MaxInt32), i64(1<<40), text(""), text("a"), text("b"), doc(), is("a", i32(1)), is("", null),
		list(), list(null), list(i32(1), text("x")), raw(""), raw("ab"), id("abcdefghijkl"), no, yes, date(0), date(-5), greatest, null), l...)
}

// TestValuesThatMayNotBe has what stands in no document: Push and Set refuse it, and all others take it as it is.
func TestValuesThatMayNotBe(t *testing.T) {
	for _, v := range strangers() {
		wantSteps(t, accum.Least, null, 16, step{v, 0, wantOutermost(v), 16}, step{null, 0, wantOutermost(v), 16})
		wantSteps(t, accum.Greatest, null, 16, step{v, 0, wantOutermost(v), 16}, step{missing, 0, wantOutermost(v), 16})
		wantSteps(t, accum.First, null, 16, step{v, 0, v, 16}, step{i32(5), 0, v, 16})
		wantSteps(t, accum.Last, null, 16, step{i32(5), 0, i32(5), 20}, step{v, 0, v, 16})
		wantSteps(t, accum.Push, list(), 21, step{v, api.ErrLong, list(), 21}, step{null, 0, list(null), 24}, step{v, api.ErrLong, list(null), 24})
		wantSteps(t, accum.Set, list(), 21, step{v, api.ErrLong, list(), 21}, step{v, api.ErrLong, list(), 21}, step{yes, 0, list(yes), 25})
		wantSteps(t, accum.Count, i32(0), 16, step{v, 0, i32(1), 16})
		if v.Kind != api.Int32 {
			wantSteps(t, accum.Sum, i32(0), 20, step{v, 0, i32(0), 20})
		}
	}
	wantSteps(t, accum.Sum, i32(0), 20, step{i32(1 << 40), 0, i64(1 << 40), 24})
}

func wantOutermost(v api.Value) api.Value {
	if v.Kind == api.Null {
		return null
	}
	return v
}

// TestAskingChangesNothing has Value and Size asked very often, or never.
func TestAskingChangesNothing(t *testing.T) {
	for _, kind := range all() {
		asked, never := made(t, kind), made(t, kind)
		for _, v := range append(plain(), plain()...) {
			for range 3 {
				asked.Value()
				asked.Size()
			}
			if e, f := asked.Add(v), never.Add(v); e != f {
				t.Errorf("kind %d: %v, %v", kind, e, f)
			}
		}
		if !bson.Same(asked.Value(), never.Value()) || asked.Size() != never.Size() {
			t.Errorf("kind %d: %s, %s", kind, show(asked.Value()), show(never.Value()))
		}
	}
}

// TestStatesApart has two of a kind, and one of each, by turns.
func TestStatesApart(t *testing.T) {
	for _, kind := range all() {
		one, other := made(t, kind), made(t, kind)
		for i, v := range plain() {
			one.Add(v)
			other.Add(plain()[len(plain())-1-i])
		}
		var back []api.Value
		for i := range plain() {
			back = append(back, plain()[len(plain())-1-i])
		}
		for _, x := range []struct {
			s *accum.State
			l []api.Value
		}{{one, plain()}, {other, back}} {
			alone := after(t, kind, x.l...)
			if !bson.Same(x.s.Value(), alone.Value()) || x.s.Size() != alone.Size() {
				t.Errorf("kind %d: %s, alone %s", kind, show(x.s.Value()), show(alone.Value()))
			}
		}
	}
}
