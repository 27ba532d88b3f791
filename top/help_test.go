package top_test

import (
	"bytes"
	"slices"
	"strconv"
	"strings"
	"testing"

	"aqueduct/top"
)

// it is an item of that key and data.
func it(key, data string) top.Item { return top.Item{Key: []byte(key), Data: []byte(data)} }

// parse reads items, each of a key, a colon and data, with blanks between.
func parse(text string) []top.Item {
	var l []top.Item
	for _, w := range strings.Fields(text) {
		key, data, _ := strings.Cut(w, ":")
		l = append(l, it(key, data))
	}
	return l
}

// show is items as a short text.
func show(l []top.Item) string {
	var b strings.Builder
	for _, x := range l {
		b.WriteString(" " + strconv.QuoteToASCII(string(x.Key)) + ":" + strconv.QuoteToASCII(string(x.Data)))
	}
	if b.Len() > 400 {
		return b.String()[:400] + ".."
	}
	return b.String()
}

func alike(a, b []top.Item) bool {
	return slices.EqualFunc(a, b, func(x, y top.Item) bool {
		return bytes.Equal(x.Key, y.Key) && bytes.Equal(x.Data, y.Data)
	})
}

// copies are items in lists of their own.
func copies(l []top.Item) []top.Item {
	out := make([]top.Item, len(l))
	for i, x := range l {
		out[i] = top.Item{Key: bytes.Clone(x.Key), Data: bytes.Clone(x.Data)}
	}
	return out
}

// first is the promise said another way: all of them sorted, those of one key as they came, and the first k taken.
func first(k int, all []top.Item) []top.Item {
	l := slices.Clone(all)
	slices.SortStableFunc(l, func(x, y top.Item) int { return strings.Compare(string(x.Key), string(y.Key)) })
	return l[:max(min(k, len(l)), 0)]
}

// taken tells whether the last one of all is among the first k: no more than k less one of the others are at or ahead of its key.
func taken(k int, all []top.Item) bool {
	x := all[len(all)-1]
	ahead := 0
	for _, y := range all[:len(all)-1] {
		if string(y.Key) <= string(x.Key) {
			ahead++
		}
	}
	return ahead < k
}

// size is what those items come to.
func size(l []top.Item) int {
	n := 0
	for _, x := range l {
		n += len(x.Key) + len(x.Data) + 32
	}
	return n
}

// wantTop has List, Len and Size answer that, twice.
func wantTop(t *testing.T, x *top.Top, what string, want []top.Item) {
	t.Helper()
	for range 2 {
		if got := x.List(); !alike(got, want) {
			t.Errorf("%s: List is%s, want%s", what, show(got), show(want))
		}
		if got := x.Len(); got != len(want) {
			t.Errorf("%s: Len is %d, want %d", what, got, len(want))
		}
		if got := x.Size(); got != size(want) {
			t.Errorf("%s: Size is %d, want %d", what, got, size(want))
		}
	}
}

// wantAdd has Add answer that, and leave its argument as it was.
func wantAdd(t *testing.T, x *top.Top, what string, item top.Item, want bool) {
	t.Helper()
	same := copies([]top.Item{item})
	if got := x.Add(item); got != want {
		t.Errorf("%s: Add of%s is %v, want %v", what, show(same), got, want)
	}
	if !alike([]top.Item{item}, same) {
		t.Errorf("%s: Add of%s has changed it", what, show(same))
	}
}

// wantAll has those items come one behind another, all asked ahead of the first, behind each, and behind the last.
func wantAll(t *testing.T, k int, all []top.Item) {
	t.Helper()
	x := top.New(k)
	what := "k " + strconv.Itoa(k) + " of" + show(all)
	wantTop(t, x, what, nil)
	for i := range all {
		came := all[:i+1]
		wantAdd(t, x, what, all[i], taken(k, came))
		wantTop(t, x, what+", behind "+strconv.Itoa(i), first(k, came))
		if t.Failed() {
			t.FailNow()
		}
	}
	quiet := top.New(k) // one that is asked nothing on the way
	for _, item := range all {
		quiet.Add(item)
	}
	wantTop(t, quiet, what+", asked at the end", first(k, all))
}

// wantSteps has each item of all told kept or not as the marks say (y, n), and the List be as left says.
func wantSteps(t *testing.T, k int, all, marks, left string) {
	t.Helper()
	x := top.New(k)
	items := parse(all)
	if len(items) != len(marks) {
		t.Fatalf("%s: %d marks", all, len(marks))
	}
	for i, item := range items {
		wantAdd(t, x, "k "+strconv.Itoa(k)+" of "+all+", "+strconv.Itoa(i), item, marks[i] == 'y')
	}
	wantTop(t, x, "k "+strconv.Itoa(k)+" of "+all, parse(left))
	wantAll(t, k, items)
}
