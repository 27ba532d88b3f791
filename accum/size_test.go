package accum_test

import (
	"strings"
	"testing"

	"aqueduct/accum"
	"aqueduct/api"
	"aqueduct/bson"
)

// one is a value, and how many bytes it has in a document beside its kind and name.
type one struct {
	v api.Value
	n int
}

// ones has a value of each kind, reckoned by hand.
func ones() []one {
	return []one{
		{least, 0}, {greatest, 0}, {i32(5), 4}, {i64(5), 8}, {date(5), 8}, {yes, 1}, {id("abcdefghijkl"), 12}, {raw(""), 5}, {raw("abc"), 8}, {text(""), 5}, {text("abc"), 8}, {text("\u00e4"), 7},
		{doc(), 5}, {is("", null), 7}, {is("abc", i32(1)), 14}, {list(), 5}, {list(null), 8}, {list(i32(1), is("a", null)), 5 + 7 + 3 + 8},
	}
}

// TestSizeOfOne has each kind that keeps one value.
func TestSizeOfOne(t *testing.T) {
	for _, kind := range []int{accum.Least, accum.Greatest, accum.First, accum.Last} {
		wantSteps(t, kind, null, 16, step{null, 0, null, 16})
		for _, x := range ones() {
			wantSteps(t, kind, null, 16, step{x.v, 0, x.v, 16 + x.n})
		}
	}
	for _, x := range ones() {
		wantSteps(t, accum.Last, null, 16, step{text("ahead"), 0, text("ahead"), 26}, step{x.v, 0, x.v, 16 + x.n}, step{missing, 0, null, 16}, step{x.v, 0, x.v, 16 + x.n}, step{none(13), 0, none(13), 16})
		wantSteps(t, accum.First, null, 16, step{missing, 0, null, 16}, step{x.v, 0, null, 16})
		wantSteps(t, accum.First, null, 16, step{x.v, 0, x.v, 16 + x.n}, step{text("behind"), 0, x.v, 16 + x.n})
	}
}

// TestSizeOfLists has each value alone and behind others.
func TestSizeOfLists(t *testing.T) {
	for _, kind := range listKinds() {
		s, size := made(t, kind), 21
		var l []api.Value
		for i, x := range ones() {
			wantSteps(t, kind, list(), 21, step{x.v, 0, list(x.v), 24 + x.n})
			wantAdd(t, s, "lists", x.v, api.OK)
			if kind == accum.Set && bson.Same(x.v, i64(5)) { // alike to the Int32 ahead
				wantState(t, s, "lists", list(l...), size)
				continue
			}
			size += 2 + len(name(len(l))) + x.n
			l = append(l, x.v)
			wantState(t, s, "lists", list(l...), size)
			if t.Failed() {
				t.Fatal(i)
			}
		}
	}
}

func TestSizeOfASum(t *testing.T) {
	wantSteps(t, accum.Sum, i32(0), 20, step{i32(0), 0, i32(0), 20}, step{i32(high32), 0, i32(high32), 20}, step{i32(1), 0, i64(high32 + 1), 24}, step{i32(-1), 0, i64(high32), 24})
	wantSteps(t, accum.Sum, i32(0), 20, step{text(strings.Repeat("x", 5000)), 0, i32(0), 20}, step{i64(0), 0, i64(0), 24})
}

// TestSizeOfACount has nothing kept, whatever comes.
func TestSizeOfACount(t *testing.T) {
	s := made(t, accum.Count)
	wantState(t, s, "Count", i32(0), 16)
	n := int64(0)
	for _, x := range ones() {
		wantAdd(t, s, "Count", x.v, api.OK)
		n++
		wantState(t, s, "Count", i32(n), 16)
	}
}

// TestSizeOfALongValue has one that just may be, and one that may not, which brings nothing more.
func TestSizeOfALongValue(t *testing.T) {
	may, not := filler(api.MaxBytes-7), filler(api.MaxBytes-6)
	for _, kind := range []int{accum.Least, accum.Greatest, accum.First, accum.Last} {
		wantSteps(t, kind, null, 16, step{may, 0, may, api.MaxBytes + 16 - 7})
		wantSteps(t, kind, null, 16, step{not, 0, not, 16})
	}
	wantSteps(t, accum.Greatest, null, 16, step{may, 0, may, api.MaxBytes + 9}, step{not, 0, not, 16}, step{may, 0, not, 16}, step{yes, 0, yes, 17})
	wantSteps(t, accum.Least, null, 16, step{not, 0, not, 16}, step{may, 0, may, api.MaxBytes + 9}, step{i32(1), 0, i32(1), 20})
}
