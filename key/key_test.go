package key_test

import (
	"bytes"
	"cmp"
	"math"
	"slices"
	"testing"

	"aqueduct/api"
	"aqueduct/key"
	"aqueduct/order"
)

// TestLadder has each pair of values in rows of one, not turned and turned.
func TestLadder(t *testing.T) {
	up, down := [][]bool{nil, {}, {false}, {false, true}}, [][]bool{{true}, {true, false}}
	l := ladder()
	for i, r := range l {
		for j, s := range l {
			for k, a := range r {
				b := s[k%len(s)]
				n := (i + j + k) % 4
				wantRows(t, row(a), row(b), up[n], cmp.Compare(i, j))
				wantRows(t, row(a), row(b), down[n%2], cmp.Compare(j, i))
			}
		}
	}
}

// TestAlike has each pair of a rung.
func TestAlike(t *testing.T) {
	for _, r := range ladder() {
		for _, a := range r {
			for _, b := range r {
				wantRows(t, row(a), row(b), nil, 0)
				wantRows(t, row(a), row(b), []bool{true}, 0)
				wantRows(t, row(a, b), row(b, a), []bool{false, true}, 0)
			}
		}
	}
}

// TestNumbersOfBothKinds has numbers beside one another, each of either kind, and no other Class that has a number.
func TestNumbersOfBothKinds(t *testing.T) {
	l := borders()
	for i := range l[1:] {
		for _, a := range row(i32(l[i]), i64(l[i])) {
			for _, b := range row(i32(l[i+1]), i64(l[i+1])) {
				wantRows(t, row(a), row(b), nil, -1)
				wantRows(t, row(a), row(b), []bool{true}, 1)
			}
		}
	}
	wantRows(t, row(i32(math.MaxInt32)), row(i64(math.MaxInt32)), nil, 0)
	wantRows(t, row(i32(math.MinInt32)), row(i64(math.MinInt32)), []bool{true}, 0)
	wantRows(t, row(i32(1)), row(truth(1)), nil, -1)
	wantRows(t, row(truth(1)), row(date(1)), nil, -1)
	wantRows(t, row(i64(math.MaxInt64)), row(date(math.MinInt64)), nil, -1)
}

// TestRungsWithin has the ladder's values within documents and Lists, ahead of something and behind it.
func TestRungsWithin(t *testing.T) {
	for _, wrap := range []func(v api.Value) []api.Value{
		func(v api.Value) []api.Value { return row(doc(as("x", v))) },
		func(v api.Value) []api.Value { return row(list(v)) },
		func(v api.Value) []api.Value { return row(list(null, doc(as("x", list(v, greatest)), as("", least)))) },
		func(v api.Value) []api.Value { return row(doc(as("x", i32(1)), as("x", doc(as("\x00", v))))) },
		func(v api.Value) []api.Value { return row(v, v) },
		func(v api.Value) []api.Value { return row(null, list(list(v), v)) },
	} {
		var rows [][]api.Value
		for _, v := range all() {
			rows = append(rows, wrap(v))
		}
		wantAll(t, rows, nil)
		wantAll(t, rows, []bool{true})
	}
}

// TestClassAheadOfName has documents of one field, in which the value's Class decides, then the name, then the value.
func TestClassAheadOfName(t *testing.T) {
	var rows [][]api.Value
	for _, v := range row(none(13), missing, least, null, i32(1), i64(1), i64(2), text(""), text("a"), doc(), list(), raw(""), id(""), truth(0), date(0), greatest) {
		for _, name := range []string{"", "\x00", "a", "a\x00", "b", "\xff", "\xff\xff"} {
			rows = append(rows, row(doc(as(name, v))), row(doc(as(name, v), as("", missing))), row(doc(as(name, v), as(name, greatest))))
		}
	}
	wantAll(t, rows, nil)
	wantAll(t, rows, []bool{true})
}

// TestRowsOfTwo has each turn of two items: where the first ones are alike, and where one begins the other, too.
func TestRowsOfTwo(t *testing.T) {
	var rows [][]api.Value
	for _, a := range edges() {
		for _, b := range row(none(13), missing, null, i32(-1), text(""), text("\x00"), text("\xff"), doc(), list(), list(null), raw("\xff"), greatest) {
			rows = append(rows, row(a, b))
		}
	}
	for _, down := range [][]bool{nil, {true}, {false, true}, {true, true}, {true, false, true}, {false, false, true}} {
		wantAll(t, rows, down)
	}
}

// TestTurned has a turned item ahead of one that is not, and behind it, where one begins the other.
func TestTurned(t *testing.T) {
	for _, x := range []struct{ short, long api.Value }{
		{text(""), text("\x00")}, {text("a"), text("ab")}, {text("a"), text("a\x00")}, {text("\xff"), text("\xff\xff")}, {text("a"), text("a\xff")},
		{raw(""), raw("\x00")}, {raw("a"), raw("aa")},
		{doc(), doc(as("", missing))}, {doc(as("a", null)), doc(as("a", null), as("", none(13)))},
		{list(), list(none(13))}, {list(null), list(null, missing)}, {list(greatest), list(greatest, greatest)}, {list(list()), list(list(), missing)},
		{doc(as("a", null)), doc(as("a\x00", null))}, {list(text("a")), list(text("ab"))},
	} {
		for _, other := range [][2]api.Value{{null, null}, {i32(1), i64(1)}, {text(""), text("\xff")}, {greatest, none(13)}, {none(13), greatest}} {
			ahead, behind := other[0], other[1]
			second := order.Compare(ahead, behind)
			a, b := row(x.short, ahead), row(x.long, behind)
			wantRows(t, a, b, nil, -1)
			wantRows(t, a, b, []bool{true}, 1)
			wantRows(t, a, b, []bool{false, true}, -1)
			wantRows(t, a, b, []bool{true, true}, 1)
			a, b = row(ahead, x.short, behind), row(behind, x.long, ahead)
			wantRows(t, a, b, nil, cmp.Or(second, -1))
			wantRows(t, a, b, []bool{true}, cmp.Or(-second, -1))
			wantRows(t, a, b, []bool{false, true}, cmp.Or(second, 1))
			wantRows(t, a, b, []bool{true, true, true}, cmp.Or(-second, 1))
			wantRows(t, a, b, []bool{false, true, false, true, true}, cmp.Or(second, 1))
		}
	}
}

func TestRowsOfNoItems(t *testing.T) {
	for _, down := range [][]bool{nil, {}, {true}, {false, true}} {
		wantRows(t, nil, nil, down, 0)
		wantRows(t, nil, row(), down, 0)
		if a, b := key.Encode(nil, down), key.Encode(row(), down); len(a) != len(b) {
			t.Errorf("%v: %x and %x", down, a, b)
		}
	}
}

// TestDownOfOtherLengths has down end ahead of the rows and beyond them.
func TestDownOfOtherLengths(t *testing.T) {
	a, b := row(i32(1), text("a"), null, date(5)), row(i64(1), text("b"), null, date(-5))
	c := row(i32(1), text("a"), null, date(6))
	for _, x := range []struct {
		down   []bool
		ab, ac int
	}{
		{nil, -1, -1}, {[]bool{}, -1, -1}, {[]bool{true}, -1, -1}, {[]bool{false, true}, 1, -1}, {[]bool{true, true, true}, 1, -1},
		{[]bool{false, false, true, true}, -1, 1}, {[]bool{true, true, true, true}, 1, 1}, {[]bool{false, false, false, true, true, true, true, true}, -1, 1}, {[]bool{false, false, false, false, true}, -1, -1},
	} {
		wantRows(t, a, b, x.down, x.ab)
		wantRows(t, a, c, x.down, x.ac)
	}
	// Room behind down and behind the rows is not asked.
	down := []bool{false, true, false, true}
	wantRows(t, a, b, down[:1], -1)
	wantRows(t, a[:2], b[:2], down[:2], 1)
	wantRows(t, a[:1], b[:1], down[:1], 0)
	wantRows(t, a, c, down[:3], -1)
}

// TestManyItems has rows that differ in one item of many, each turned or not.
func TestManyItems(t *testing.T) {
	var down []bool
	var l []api.Value
	for i, v := range all() {
		l = append(l, v)
		down = append(down, i%3 == 0)
	}
	for i := range l {
		other := slices.Clone(l)
		other[i] = text("b\x00")
		want := order.Compare(l[i], other[i])
		if down[i] {
			want = -want
		}
		wantRows(t, l, other, down, want)
		wantRows(t, other, other, down[:i], 0)
	}
}

// TestLong has lengths that need a byte more.
func TestLong(t *testing.T) {
	for _, n := range []int{1, 127, 128, 255, 256, 257, 1 << 15, 1<<16 - 1, 1 << 16, 1<<16 + 1, 1<<24 - 1, 1 << 24} {
		b := bytes.Repeat([]byte{'a'}, n)
		end := string(b[:n-1])
		wantRows(t, row(raw("\xff"+end[:n-1])), row(raw(end+"aa")), nil, -1)
		wantRows(t, row(raw(end+"a"), null), row(raw(end+"b"), least), []bool{true}, 1)
		wantRows(t, row(text(end)), row(text(end+"a")), nil, -1)
		wantRows(t, row(text(end+"a"), null), row(text(end+"\x00"), least), []bool{true}, -1)
		if n > 1<<16+1 {
			continue
		}
		wantRows(t, row(doc(as(end, null), as("a", null))), row(doc(as(end+"a", null))), nil, -1)
		many := slices.Repeat(row(null), n)
		wantRows(t, row(list(many...), greatest), row(list(many[1:]...), least), nil, 1)
		wantRows(t, row(list(many...)), row(list(append(many[1:], least)...)), []bool{true}, -1)
		fields := slices.Repeat([]api.Field{as("a", null)}, n)
		wantRows(t, row(doc(fields...), greatest), row(doc(fields[1:]...), least), nil, 1)
		wantRows(t, row(doc(fields...)), row(doc(append(fields[1:], as("b", least))...)), nil, 1)
	}
}

// TestSortedAsBytes has the ladder come back from another order by its bytes alone.
func TestSortedAsBytes(t *testing.T) {
	l := all()
	slices.Reverse(l)
	slices.SortStableFunc(l, func(a, b api.Value) int { return bytes.Compare(key.Encode(row(a), nil), key.Encode(row(b), nil)) })
	for i := range l[1:] {
		if order.Compare(l[i], l[i+1]) > 0 {
			t.Errorf("%s stands ahead of %s", showOne(l[i]), showOne(l[i+1]))
		}
	}
	if len(ladder()[0]) < 2 || order.Class(l[0].Kind) != -1 || l[len(l)-1].Kind != api.Greatest {
		t.Errorf("from %s to %s", showOne(l[0]), showOne(l[len(l)-1]))
	}
}
