package order_test

import (
	"testing"

	"aqueduct/api"
	"aqueduct/order"
)

// upOnce and downOnce are turns of rows of one item, some shorter and some longer than these.
var upOnce, downOnce = [][]bool{nil, {}, {false}, {false, true}, {false, true, true}}, [][]bool{{true}, {true, false}, {true, true, false}}

// TestRowsOfOne has each pair of values, with and without a turn.
func TestRowsOfOne(t *testing.T) {
	for _, a := range all() {
		for _, b := range all() {
			want := order.Compare(a, b)
			wantBy(t, row(a), row(b), upOnce[0], want)
			wantBy(t, row(a), row(b), upOnce[3], want)
			wantBy(t, row(a), row(b), downOnce[0], -want)
			endIfFailed(t)
		}
	}
	for _, down := range upOnce {
		wantBy(t, row(i32(1)), row(i64(2)), down, -1)
		wantBy(t, row(i32(1)), row(i64(1)), down, 0)
	}
	for _, down := range downOnce {
		wantBy(t, row(i32(1)), row(i64(2)), down, 1)
		wantBy(t, row(i32(1)), row(i64(1)), down, 0)
	}
}

// TestRowsOfSeveral has the first item that differs decide, by its own turn.
func TestRowsOfSeveral(t *testing.T) {
	a, b := row(i32(1), text("a"), null, date(5)), row(i64(1), text("b"), null, date(-5))
	for _, x := range []struct {
		n    int
		down []bool
		want int
	}{
		{1, nil, 0}, {1, []bool{true}, 0}, {1, []bool{false, true}, 0},
		{2, nil, -1}, {2, []bool{true}, -1}, {2, []bool{true, false}, -1}, {2, []bool{false, true}, 1}, {2, []bool{true, true}, 1},
		{4, nil, -1}, {4, []bool{true, false, true, true}, -1}, {4, []bool{false, true, false, false}, 1}, {4, []bool{true, true, true, true, true}, 1},
	} {
		wantBy(t, a[:x.n], b[:x.n], x.down, x.want)
	}
	a[1] = text("b")
	for _, x := range []struct {
		down []bool
		want int
	}{
		{nil, 1}, {[]bool{true}, 1}, {[]bool{true, true, true}, 1}, {[]bool{true, true, true, false}, 1},
		{[]bool{false, false, false, true}, -1}, {[]bool{true, true, true, true}, -1}, {[]bool{false, false, false, true, false}, -1},
	} {
		wantBy(t, a, b, x.down, x.want)
	}
}

func TestRowsOfNoItems(t *testing.T) {
	for _, down := range [][]bool{nil, {}, {true}, {false, true}} {
		for _, empty := range [][]api.Value{nil, {}} {
			wantBy(t, empty, nil, down, 0)
			wantBy(t, empty, row(missing), down, 0)
			wantBy(t, empty, row(missing, missing, missing), down, 0)
		}
	}
	for _, a := range all() {
		want := order.Compare(missing, a)
		wantBy(t, nil, row(a), nil, want)
		wantBy(t, nil, row(a), []bool{true}, -want)
		wantBy(t, row(), row(missing, a), []bool{true}, want)
		wantBy(t, row(), row(missing, a), []bool{false, true}, -want)
		endIfFailed(t)
	}
}

// TestRowsOfUnlikeLengths has the shorter row go on with what is Missing.
func TestRowsOfUnlikeLengths(t *testing.T) {
	short, long := row(i32(1)), row(i64(1), least)
	wantBy(t, short, long, nil, -1)
	wantBy(t, short, long, []bool{true}, -1)
	wantBy(t, short, long, []bool{true, true}, 1)
	wantBy(t, short, long, []bool{false, true}, 1)
	wantBy(t, short, row(i64(1), missing, missing), []bool{true, true, true}, 0)
	wantBy(t, short, row(i64(1), missing, null), []bool{true, true}, -1)
	wantBy(t, short, row(i64(1), missing, null), []bool{false, false, true}, 1)
	wantBy(t, short, row(i64(1), none(13)), nil, 1)
	wantBy(t, short, row(i64(1), none(13)), []bool{false, true}, -1)
	wantBy(t, row(i32(2)), long, nil, 1)
	wantBy(t, row(i32(2)), long, []bool{true, true}, -1)
	wantBy(t, row(missing, i32(1)), row(), []bool{true}, 1)
}

// TestRowsInRoom has room behind the rows and behind down, which is not asked.
func TestRowsInRoom(t *testing.T) {
	a, b := row(i32(1), i32(2), i32(3)), row(i64(1), i64(3), i64(2))
	down := []bool{false, true, true}
	wantBy(t, a[:1], b[:1], down[:0], 0)
	wantBy(t, a[:2], b[:2], down[:1], -1)
	wantBy(t, a[:2], b[:1], down[:1], 1)
	wantBy(t, a[:1], b[:2], down[:1], -1)
	wantBy(t, a[:1], b[:2], down[:2], 1)
}
