package accum_test

import (
	"testing"

	"aqueduct/accum"
	"aqueduct/api"
	"aqueduct/bson"
)

// listKinds are those whose List may grow too long.
func listKinds() []int { return []int{accum.Push, accum.Set} }

// wantFull has a List of those just be a document of MaxBytes, and nothing more go in but what is no more.
func wantFull(t *testing.T, kind int, l ...api.Value) {
	t.Helper()
	if n := bson.Size(is("", list(l...))); n != api.MaxBytes {
		t.Fatalf("a document of %d bytes", n)
	}
	s := after(t, kind, l...)
	full := api.MaxBytes + 16 - 7
	wantState(t, s, "full", list(l...), full)
	for _, v := range append(plain(), null, text("another"), i32(77)) {
		if kind == accum.Push || !holds(l, v) {
			wantAdd(t, s, "full", v, api.ErrLong)
		}
		wantState(t, s, "full", list(l...), full)
		endIfFailed(t)
	}
	wantAdd(t, s, "full", missing, api.OK)
	if kind == accum.Set {
		for _, v := range l {
			wantAdd(t, s, "full", v, api.OK)
		}
	}
	wantState(t, s, "full", list(l...), full)
}

// holds tells whether one of l is alike to v.
func holds(l []api.Value, v api.Value) bool {
	s := accum.New(accum.Set)
	for _, x := range l {
		s.Add(x)
	}
	n := len(s.Value().L)
	s.Add(v)
	return len(s.Value().L) == n && s.Add(v) == api.OK
}

// The document, its one field's kind and name, the List: 12 bytes; an item's kind and name: 3 for the first ten.
const around, item = 12, 3

func TestOneLongItem(t *testing.T) {
	for _, kind := range listKinds() {
		wantFull(t, kind, filler(api.MaxBytes-around-item))
		wantSteps(t, kind, list(), 21, step{filler(api.MaxBytes - around - item + 1), api.ErrLong, list(), 21}, step{i32(1), 0, list(i32(1)), 28},
			step{filler(api.MaxBytes - around - item - 7 + 1), api.ErrLong, list(i32(1)), 28})
		wantFull(t, kind, i32(1), filler(api.MaxBytes-around-item-7))
		wantFull(t, kind, filler(api.MaxBytes-around-2*item-4), i32(1))
	}
}

// TestOneMore has a List that lacks some bytes: what is longer is refused, what is short enough goes in behind it.
func TestOneMore(t *testing.T) {
	for _, kind := range listKinds() {
		for lack := range 12 {
			s := after(t, kind, filler(api.MaxBytes-around-item-lack))
			l := s.Value().L
			for _, x := range []struct {
				v    api.Value
				need int
			}{{i64(5), 11}, {text("b"), 9}, {text(""), 8}, {i32(6), 7}, {yes, 4}, {null, 3}, {least, 3}} {
				e := api.Errno(api.ErrLong)
				if x.need <= lack {
					l, lack, e = append(l, x.v), lack-x.need, api.OK
				}
				wantAdd(t, s, "one more", x.v, e)
				wantState(t, s, "one more", list(l...), api.MaxBytes-lack+9)
			}
			endIfFailed(t)
		}
	}
}

// TestManyItems has numbers of items grow longer: at 10, 100, 1000.
func TestManyItems(t *testing.T) {
	s, size := made(t, accum.Push), around
	var l []api.Value
	for i := 0; ; i++ {
		n := 1 + len(name(i)) + 1
		if size+n > api.MaxBytes {
			break
		}
		size += n
		l = append(l, null)
		if e := s.Add(null); e != api.OK || s.Size() != size+9 {
			t.Fatalf("item %d: %v, Size %d, want %d", i, e, s.Size(), size+9)
		}
	}
	wantState(t, s, "many", list(l...), size+9)
	wantAdd(t, s, "many", null, api.ErrLong)
	wantState(t, s, "many", list(l...), size+9)
	if n := bson.Size(is("", list(l...))); n != size {
		t.Errorf("a document of %d bytes, want %d", n, size)
	}
}

// name is a number without strconv's help.
func name(i int) string {
	if i < 10 {
		return string(rune('0' + i))
	}
	return name(i/10) + name(i%10)
}

// TestManyItemsOfASet has as many numbers as go in, one more, and all of them again.
func TestManyItemsOfASet(t *testing.T) {
	s, n := made(t, accum.Set), int64(0)
	for s.Add(i32(n^0x555)) == api.OK {
		n++
	}
	size := s.Size()
	if doc := bson.Size(is("", s.Value())); size != doc+9 || doc > api.MaxBytes || doc+10 < api.MaxBytes || int(n) != len(s.Value().L) {
		t.Errorf("%d items, Size %d, a document of %d bytes", n, size, doc)
	}
	for i := range n {
		if e := s.Add(i64(i ^ 0x555)); e != api.OK {
			t.Fatalf("item %d again: %v", i, e)
		}
	}
	wantAdd(t, s, "one more", i32(n^0x555), api.ErrLong)
	if s.Size() != size || int(n) != len(s.Value().L) {
		t.Errorf("Size %d, want %d", s.Size(), size)
	}
	for i, v := range s.Value().L {
		if !bson.Same(v, i32(int64(i)^0x555)) {
			t.Fatalf("item %d: %s", i, show(v))
		}
	}
}

// TestDeepItems has items as deep as they may be, and deeper: the document and the List around them count.
func TestDeepItems(t *testing.T) {
	for _, kind := range listKinds() {
		may, not := deep(i32(1), api.MaxDepth-2), deep(i32(1), api.MaxDepth-1)
		size := bson.Size(is("", list(may))) + 9
		wantSteps(t, kind, list(), 21, step{not, api.ErrLong, list(), 21}, step{may, 0, list(may), size}, step{not, api.ErrLong, list(may), size}, step{null, 0, list(may, null), size + 3})
		wantSteps(t, kind, list(), 21, step{is("a", not), api.ErrLong, list(), 21}, step{is("a", may), api.ErrLong, list(), 21}, step{deep(is("a", i32(1)), api.MaxDepth-3), 0, list(deep(is("a", i32(1)), api.MaxDepth-3)), bson.Size(is("", list(deep(is("a", i32(1)), api.MaxDepth-3)))) + 9})
	}
	for _, kind := range []int{accum.Least, accum.Greatest, accum.First, accum.Last} {
		may, not := deep(i32(1), api.MaxDepth-1), deep(i32(1), api.MaxDepth)
		wantSteps(t, kind, null, 16, step{may, 0, may, 16 + bson.Size(is("", may)) - 7})
		wantSteps(t, kind, null, 16, step{not, 0, not, 16})
	}
}

// TestSetPassesByWhatIsAlike has no error of what is alike to an item, though it may not be itself.
func TestSetPassesByWhatIsAlike(t *testing.T) {
	far := i32(1 << 40)
	l := list(i64(1<<40), text("a"))
	wantSteps(t, accum.Set, list(), 21, step{far, api.ErrLong, list(), 21}, step{i64(1 << 40), 0, list(i64(1 << 40)), 32}, step{far, 0, list(i64(1 << 40)), 32},
		step{text("a"), 0, l, 41}, step{api.Value{Kind: api.Text, S: "a", N: 1}, 0, l, 41}, step{boolean(2), api.ErrLong, l, 41}, step{is("a", missing), api.ErrLong, l, 41})
}
