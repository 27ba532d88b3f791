package order_test

import (
	"slices"
	"testing"

	"aqueduct/api"
	"aqueduct/bson"
	"aqueduct/order"
)

func TestCutOfAList(t *testing.T) {
	for _, x := range []struct {
		v        api.Value
		up, down api.Value
	}{
		{list(i32(5)), i32(5), i32(5)},
		{list(i32(2), i32(1), i32(3)), i32(1), i32(3)},
		{list(i32(1), i32(2), i32(3)), i32(1), i32(3)},
		{list(i32(3), i32(2), i32(1)), i32(1), i32(3)},
		{list(text("b"), i64(7), null, text("a"), list()), null, list()},
		{list(i32(1), missing, i32(2)), missing, i32(2)},
		{list(missing), missing, missing},
		{list(missing, none(13), missing), none(13), missing},
		{list(greatest, least), least, greatest},
		{list(date(-1), date(-2), boolean(1)), boolean(1), date(-1)},
		{list(raw("b"), raw("aa"), raw("a")), raw("a"), raw("aa")},
		{list(is("b", i32(1)), is("a", i32(2)), is("a", text(""))), is("a", i32(2)), is("a", text(""))},
		{list(list(i32(2)), list(i32(1), i32(9)), list(i32(1))), list(i32(1)), list(i32(2))},
		{list(list(i32(1), i32(2))), list(i32(1), i32(2)), list(i32(1), i32(2))},
		{list(list(), i32(1)), i32(1), list()},
	} {
		wantCut(t, x.v, false, x.up)
		wantCut(t, x.v, true, x.down)
	}
}

func TestCutOfAnEmptyList(t *testing.T) {
	for _, down := range []bool{false, true} {
		wantCut(t, list(), down, missing)
		wantCut(t, list([]api.Value{}...), down, missing)
		wantCut(t, api.Value{Kind: api.List, N: 5, S: "x", B: []byte{1}, F: is("a", null).F}, down, missing)
	}
}

// TestCutHasTheFirstOfAlikeOnes has kinds tell the alike ones apart.
func TestCutHasTheFirstOfAlikeOnes(t *testing.T) {
	for _, x := range []struct {
		v        api.Value
		up, down api.Value
	}{
		{list(i32(1), i64(1)), i32(1), i32(1)},
		{list(i64(1), i32(1)), i64(1), i64(1)},
		{list(i64(1), i32(1), i64(1)), i64(1), i64(1)},
		{list(i32(2), i32(1), i64(2), i64(1)), i32(1), i32(2)},
		{list(i64(2), i64(1), i32(2), i32(1)), i64(1), i64(2)},
		{list(is("a", i64(1)), is("a", i32(1))), is("a", i64(1)), is("a", i64(1))},
		{list(null, list(i64(1)), list(i32(1)), null), null, list(i64(1))},
		{list(none(13), none(-1)), none(13), none(13)},
		{list(none(-1), none(13)), none(-1), none(-1)},
	} {
		wantCut(t, x.v, false, x.up)
		wantCut(t, x.v, true, x.down)
	}
}

// TestCutOfTheLadder has each piece of the ladder, a value of each step, whichever way round it stands.
func TestCutOfTheLadder(t *testing.T) {
	var l []api.Value
	for _, step := range ladder() {
		l = append(l, step[len(step)-1])
	}
	for n := range l {
		piece := slices.Clone(l[n/2 : n+1])
		low, high := piece[0], piece[len(piece)-1]
		wantCut(t, list(piece...), false, low)
		wantCut(t, list(piece...), true, high)
		slices.Reverse(piece)
		wantCut(t, list(piece...), false, low)
		wantCut(t, list(piece...), true, high)
		endIfFailed(t)
	}
}

func TestCutOfWhatIsNoList(t *testing.T) {
	for _, v := range all() {
		if v.Kind == api.List {
			continue
		}
		wantCut(t, v, false, v)
		wantCut(t, v, true, v)
		v = beside(v, 3)
		wantCut(t, v, false, v)
		wantCut(t, v, true, v)
	}
}

func TestCutOfADeepList(t *testing.T) {
	low, high := i32(1), i64(2)
	for range 1<<16 - 3 {
		low, high = list(low), list(high)
	}
	for _, v := range []api.Value{list(low, high), list(high, low)} {
		if !bson.Same(order.Cut(v, false), low) || !bson.Same(order.Cut(v, true), high) {
			t.Error("Cut of Lists in Lists")
		}
	}
}

// shared are values with lists of every sort, whose least and whose greatest item have some.
func shared() []api.Value {
	bytes := api.Value{Kind: api.Bytes, B: append(make([]byte, 0, 9), 1, 2, 3)}
	in := docs(is("a", bytes), is("b", list(bytes, is("c", bytes))))
	return []api.Value{bytes, in, list(in), list(bytes), list(in, bytes, list(in)), list(list(bytes), list(bytes, in), in, in)}
}

// TestCutIsNewMemory has all of an answer changed, and all of what was handed in.
func TestCutIsNewMemory(t *testing.T) {
	for i := range shared() {
		for _, down := range []bool{false, true} {
			v, same := shared()[i], shared()[i]
			want := order.Cut(v, down)
			spoil(order.Cut(v, down))
			if !bson.Same(v, same) {
				t.Errorf("value %d: an answer shares lists with what was handed in", i)
			}
			if !bson.Same(order.Cut(v, down), want) {
				t.Errorf("value %d: an answer hangs on one that was changed", i)
			}
			spoil(v)
			if !bson.Same(want, order.Cut(same, down)) {
				t.Errorf("value %d: an answer hangs on what was handed in", i)
			}
		}
	}
}

// TestCutLeavesRoomAlone has room behind the items, of which nothing is asked.
func TestCutLeavesRoomAlone(t *testing.T) {
	items := []api.Value{i32(5), i32(6), least, greatest}
	wantCut(t, list(items[:2]...), false, i32(5))
	wantCut(t, list(items[:2]...), true, i32(6))
	wantCut(t, list(items[:0]...), false, missing)
	if !bson.Same(list(items...), list(i32(5), i32(6), least, greatest)) {
		t.Error("room was changed", show(list(items...)))
	}
}
