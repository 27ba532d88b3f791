package key_test

import (
	"bytes"
	"slices"
	"testing"

	"aqueduct/api"
	"aqueduct/bson"
	"aqueduct/key"
)

// TestTheSameRowTwice has the same bytes come of a row and of its copy, whatever was asked between.
func TestTheSameRowTwice(t *testing.T) {
	var ahead [][]byte
	for _, v := range all() {
		ahead = append(ahead, key.Encode(row(v, null, v), []bool{false, true, true}))
	}
	for i, v := range all() {
		c := bson.Copy(v)
		if b := key.Encode(row(c, null, c), []bool{false, true, true}); !bytes.Equal(b, ahead[i]) {
			t.Errorf("%s: %x, and then %x", showOne(v), ahead[i], b)
		}
	}
}

// TestAnswersAreTheCallers has an answer changed: no value, and no later answer, hangs on that.
func TestAnswersAreTheCallers(t *testing.T) {
	for _, down := range [][]bool{nil, {true, true}} {
		for _, v := range append(all(), edges()...) {
			l := row(v, v)
			same := bson.Copy(list(l...))
			one, two := key.Encode(l, down), key.Encode(l, down)
			want := bytes.Clone(one)
			spoilt := one[:cap(one)]
			for i := range spoilt {
				spoilt[i] ^= 0x55
			}
			if !bytes.Equal(two, want) || !bytes.Equal(key.Encode(l, down), want) {
				t.Fatalf("%s: an answer hangs on another", showOne(v))
			}
			wantSame(t, l, same.L)
		}
	}
}

// TestNothingIsChanged has rows with room behind them, and behind the bytes in them.
func TestNothingIsChanged(t *testing.T) {
	room := []byte("\x00a\x00\xff")
	l := row(raw("ab"), text("\x00"), id("\x00\x00"), doc(as("\x00", raw("\x00"))), list(raw("\x00")), i32(7), i32(8))
	l[0].B, l[2].B = room[:2], room[1:3]
	same, down := bson.Copy(list(l...)), []bool{true, false, true, true, true, false, true}
	turns := slices.Clone(down)
	for n := range l {
		key.Encode(l[:n], down[:n])
		key.Encode(l[:n], down[:max(n-1, 0)])
	}
	wantSame(t, l, same.L)
	if !slices.Equal(down, turns) || string(room) != "\x00a\x00\xff" {
		t.Errorf("%v and %q", down, room)
	}
}

// TestWhatIsBesideAKind has values with all that their kind does not have: nothing hangs on it.
func TestWhatIsBesideAKind(t *testing.T) {
	for _, v := range all() {
		one, two := beside(v, 1), beside(v, 2)
		wantRows(t, row(v), row(one), nil, 0)
		wantRows(t, row(one, v), row(two, one), []bool{true}, 0)
		wantRows(t, row(list(one), doc(as("a", two))), row(list(two), doc(as("a", v))), []bool{false, true}, 0)
	}
}

// beside gives v all that its kind does not have, made of n.
func beside(v api.Value, n int64) api.Value {
	more := api.Value{Kind: v.Kind, N: n, S: string(rune('a' + n)), B: []byte{byte(n)}, F: []api.Field{as("a", i32(n))}, L: row(i32(n))}
	switch v.Kind {
	case api.Int32, api.Int64, api.Bool, api.Date:
		more.N = v.N
	case api.Text:
		more.S = v.S
	case api.Bytes, api.Id:
		more.B = v.B
	case api.Doc:
		more.F = v.F
	case api.List:
		more.L = v.L
	}
	return more
}
