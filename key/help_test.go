package key_test

import (
	"bytes"
	"math"
	"slices"
	"strconv"
	"testing"

	"aqueduct/api"
	"aqueduct/bson"
	"aqueduct/key"
	"aqueduct/order"
)

// The values, short.
var (
	missing  = api.Value{}
	least    = api.Value{Kind: api.Least}
	null     = api.Value{Kind: api.Null}
	greatest = api.Value{Kind: api.Greatest}
)

func none(kind int) api.Value            { return api.Value{Kind: kind} }
func i32(n int64) api.Value              { return api.Value{Kind: api.Int32, N: n} }
func i64(n int64) api.Value              { return api.Value{Kind: api.Int64, N: n} }
func truth(n int64) api.Value            { return api.Value{Kind: api.Bool, N: n} }
func date(n int64) api.Value             { return api.Value{Kind: api.Date, N: n} }
func text(s string) api.Value            { return api.Value{Kind: api.Text, S: s} }
func raw(s string) api.Value             { return api.Value{Kind: api.Bytes, B: []byte(s)} }
func id(s string) api.Value              { return api.Value{Kind: api.Id, B: []byte(s)} }
func list(l ...api.Value) api.Value      { return api.Value{Kind: api.List, L: l} }
func row(l ...api.Value) []api.Value     { return l }
func doc(l ...api.Field) api.Value       { return api.Value{Kind: api.Doc, F: l} }
func as(n string, v api.Value) api.Field { return api.Field{Name: n, V: v} }

// rung are values that are alike; a ladder has each rung ahead of the next one.
type rung []api.Value

func ladder() []rung {
	return slices.Concat(
		[]rung{{none(-1), none(13), none(math.MinInt), none(math.MaxInt), none(256 + api.Text)}, {missing}, {least}, {null}},
		numbers(), texts(), documents(), lists(), plain(api.Bytes), plain(api.Id), truths(), dates(),
		[]rung{{greatest}},
	)
}

// borders are numbers beside one another, wherever a byte more is needed or a sign turns.
func borders() []int64 {
	l := []int64{math.MinInt64, math.MinInt64 + 1, -1, 0, 1, math.MaxInt64 - 1, math.MaxInt64}
	for shift := 7; shift < 63; shift++ {
		if shift%8 == 7 || shift%8 == 0 || shift == 53 {
			n := int64(1) << shift
			l = append(l, n-1, n, n+1, -n-1, -n, -n+1)
		}
	}
	slices.Sort(l)
	return slices.Compact(l)
}

func numbers() []rung {
	var l []rung
	for _, n := range borders() {
		l = append(l, rung{i64(n), i32(n)})
	}
	return l
}

func truths() []rung {
	return []rung{{truth(math.MinInt64)}, {truth(-1)}, {truth(0)}, {truth(1)}, {truth(2)}, {truth(math.MaxInt64)}}
}

func dates() []rung {
	var l []rung
	for _, n := range borders() {
		l = append(l, rung{date(n)})
	}
	return l
}

// spellings rise: none, short ones of the bytes at the edges, some that begin others.
func spellings() []string {
	edge := []string{"\x00", "\x01", "a", "\xfe", "\xff"}
	l := []string{"", "ab", "abc", "a\x00b", "a\x00\x00b", "\x00\x00\x00", "\x00\x00\x01", "\x00\x00\xff", "\x00\x01\x00", "\x00\x01\x01", "\x00\xff\x00", "\x00\xff\xff", "\xff\x00\x00", "\xff\xff\xff", "\u00e4", "\U0001f600", "\uffee"}
	for _, a := range edge {
		l = append(l, a)
		for _, b := range edge {
			l = append(l, a+b)
		}
	}
	slices.Sort(l)
	return slices.Compact(l)
}

func texts() []rung {
	var l []rung
	for _, s := range spellings() {
		l = append(l, rung{text(s)})
	}
	return l
}

// plain has Bytes by how many, then by the bytes; Ids by the bytes.
func plain(kind int) []rung {
	all := append(spellings(), "\x00\x00\x00\x00\x00\x00\x00\x00\x00\x00\x00\x00", "\x00\x00\x00\x00\x00\x00\x00\x00\x00\x00\x00\x01", "abcdefghijkl", "abcdefghijklm", "abcdefghijkm", "bbcdefghijkl", "\xff\xff\xff\xff\xff\xff\xff\xff\xff\xff\xff\xff")
	slices.Sort(all)
	if kind == api.Bytes {
		slices.SortStableFunc(all, func(a, b string) int { return len(a) - len(b) })
	}
	var l []rung
	for _, s := range all {
		l = append(l, rung{{Kind: kind, B: []byte(s)}})
	}
	return l
}

// documents go by the first value's Class, its name, itself, then by what is behind.
func documents() []rung {
	one, two := as("a", i32(1)), as("a", i64(1))
	return []rung{
		{doc(), doc([]api.Field{}...)},
		{doc(as("z", none(-1))), doc(as("z", none(77)))},
		{doc(as("z", missing))},
		{doc(as("z", least))},
		{doc(as("", null))},
		{doc(as("", null), as("", null))},
		{doc(as("\x00", null))},
		{doc(as("\x00\x00", null))},
		{doc(as("\x00\x01", null))},
		{doc(as("\x01", null))},
		{doc(as("a", null))},
		{doc(as("a", null), as("a", null))},
		{doc(as("a", null), as("", i32(0)))},
		{doc(as("a\x00", null))},
		{doc(as("a\x00\x01", null))},
		{doc(as("a\x01", null))},
		{doc(as("aa", null))},
		{doc(as("b", null))},
		{doc(as("\xff", null))},
		{doc(as("\xff\x00", null))},
		{doc(as("\xff\xff", null))},
		{doc(as("", i32(9))), doc(as("", i64(9)))},
		{doc(as("A", i32(9)))},
		{doc(as("a", i32(-5))), doc(as("a", i64(-5)))},
		{doc(one), doc(two)},
		{doc(one, as("b", missing)), doc(two, as("b", missing))},
		{doc(one, as("b", null)), doc(two, as("b", null))},
		{doc(one, as("b", i64(7))), doc(two, as("b", i32(7)))},
		{doc(one, as("b", i32(7)), as("c", i32(-7)))},
		{doc(one, as("b", i32(8)))},
		{doc(one, as("c", i32(7)))},
		{doc(one, as("b", text("")))},
		{doc(as("a", i32(2)))},
		{doc(as("a\x00", i32(-9)))},
		{doc(as("b", i32(-9)))},
		{doc(as("a", text("")))},
		{doc(as("a", text("\x00")))},
		{doc(as("a", text("\x00\x00")))},
		{doc(as("a", text("a")))},
		{doc(as("a", text("a")), as("b", null))},
		{doc(as("a", text("a\x00")))},
		{doc(as("a", text("\xff")))},
		{doc(as("b", text("")))},
		{doc(as("a", doc()))},
		{doc(as("a", doc()), as("a", doc()))},
		{doc(as("a", doc(one))), doc(as("a", doc(two)))},
		{doc(as("a", doc(one)), as("b", null))},
		{doc(as("a", doc(one, as("b", null))))},
		{doc(as("b", doc()))},
		{doc(as("a", list()))},
		{doc(as("a", list()), as("0", null))},
		{doc(as("a", list(null)))},
		{doc(as("0", raw("")))},
		{doc(as("0", id("abcdefghijkl")))},
		{doc(as("0", truth(0)))},
		{doc(as("0", date(0)))},
		{doc(as("0", greatest))},
		{doc(as("0", greatest), as("0", null))},
	}
}

func lists() []rung {
	return []rung{
		{list(), list([]api.Value{}...)},
		{list(none(-1)), list(none(13))},
		{list(missing)},
		{list(missing, missing)},
		{list(missing, greatest)},
		{list(least)},
		{list(null)},
		{list(null, null)},
		{list(i32(-1)), list(i64(-1))},
		{list(i32(1)), list(i64(1))},
		{list(i32(1), none(13))},
		{list(i32(1), i32(2)), list(i64(1), i64(2)), list(i32(1), i64(2))},
		{list(i32(1), i32(2), missing)},
		{list(i32(1), i32(3))},
		{list(i32(1), text(""))},
		{list(i32(2))},
		{list(i32(256))},
		{list(text(""))},
		{list(text(""), text(""))},
		{list(text("\x00"))},
		{list(text("a"), greatest)},
		{list(text("a\x00"))},
		{list(text("aa"), least)},
		{list(doc())},
		{list(doc(), doc())},
		{list(doc(as("a", null)))},
		{list(list())},
		{list(list(), list())},
		{list(list(), list(null))},
		{list(list(), greatest)},
		{list(list(null))},
		{list(list(null), null)},
		{list(list(null, null))},
		{list(list(list()))},
		{list(list(list(), null))},
		{list(list(list(null)))},
		{list(raw(""))},
		{list(raw("\xff"), null)},
		{list(raw("\x00\x00"))},
		{list(id("\x00"))},
		{list(truth(0), truth(1))},
		{list(truth(1), truth(0))},
		{list(date(-1))},
		{list(greatest)},
		{list(greatest, greatest)},
	}
}

// all are the ladder's values in one list.
func all() []api.Value { return slices.Concat(ladder()...) }

// edges are few values that begin or end alike in one way or another.
func edges() []api.Value {
	return row(
		none(-1), missing, least, null, greatest,
		i32(-1), i64(-1), i32(0), i64(1), i64(math.MinInt64), i64(math.MaxInt64),
		text(""), text("\x00"), text("\x00\x00"), text("\x00\x01"), text("\x01"), text("a"), text("a\x00"), text("ab"), text("\xff"), text("\xff\xff"),
		doc(), doc(as("", null)), doc(as("a", null)), doc(as("a", null), as("b", null)), doc(as("a", text(""))), doc(as("a", doc())),
		list(), list(missing), list(null), list(null, null), list(text("")), list(list()), list(list(), null),
		raw(""), raw("\x00"), raw("\x00\x00"), raw("\xff"), raw("\xff\xff"),
		id("\x00\x00\x00\x00\x00\x00\x00\x00\x00\x00\x00\x00"), id("\xff\xff\xff\xff\xff\xff\xff\xff\xff\xff\xff\xff"),
		truth(0), truth(1), date(-1), date(0),
	)
}

// show is a row as a short text.
func show(l []api.Value) string {
	s := "["
	for _, v := range l {
		s += " " + showOne(v)
	}
	return s[:min(len(s), 300)] + "]"
}

func showOne(v api.Value) string {
	s := strconv.Itoa(v.Kind) + ":" + strconv.FormatInt(v.N, 10)
	if len(v.S)+len(v.B) > 0 {
		s += strconv.QuoteToASCII(v.S) + strconv.QuoteToASCII(string(v.B))
	}
	for _, f := range v.F {
		s += "{" + strconv.QuoteToASCII(f.Name) + showOne(f.V) + "}"
	}
	if len(v.L) > 0 {
		s += show(v.L)
	}
	return s[:min(len(s), 200)]
}

// wantRows holds the bytes of two rows against what order.By is to say of them, both ways round.
func wantRows(t *testing.T, a, b []api.Value, down []bool, want int) {
	t.Helper()
	if got := order.By(a, b, down); got != want {
		t.Fatalf("By of %s and %s, %v: %d, want %d", show(a), show(b), down, got, want)
	}
	wantBytes(t, a, b, down, key.Encode(a, down), key.Encode(b, down), want)
}

// wantBytes holds the bytes against what order.By said, both ways round.
func wantBytes(t *testing.T, a, b []api.Value, down []bool, x, y []byte, want int) {
	t.Helper()
	if got := bytes.Compare(x, y); got != want {
		t.Fatalf("%s and %s, %v: %x and %x, %d, want %d", show(a), show(b), down, x, y, got, want)
	}
	if got := bytes.Compare(y, x); got != -want {
		t.Fatalf("%s and %s, %v: %x and %x, %d, want %d", show(b), show(a), down, y, x, got, -want)
	}
}

// wantAll holds the bytes of any two of the rows against order.By, each row encoded once.
func wantAll(t *testing.T, rows [][]api.Value, down []bool) {
	t.Helper()
	var l [][]byte
	for _, r := range rows {
		l = append(l, key.Encode(r, down))
	}
	for i, a := range rows {
		for j, b := range rows {
			wantBytes(t, a, b, down, l[i], l[j], order.By(a, b, down))
		}
	}
}

// wantSame holds a row against its copy of before.
func wantSame(t *testing.T, l, ahead []api.Value) {
	t.Helper()
	if !bson.Same(list(l...), list(ahead...)) {
		t.Fatalf("%s was changed, from %s", show(l), show(ahead))
	}
}
