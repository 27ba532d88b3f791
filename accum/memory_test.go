package accum_test

import (
	"testing"

	"aqueduct/accum"
	"aqueduct/api"
	"aqueduct/bson"
)

// roomy is a value with lists of every sort, with room behind them.
func roomy() api.Value {
	b := api.Value{Kind: api.Bytes, B: append(make([]byte, 0, 9), 1, 2, 3)}
	in := api.Value{Kind: api.Doc, F: append(make([]api.Field, 0, 5), api.Field{Name: "b", V: b}, api.Field{Name: "l", V: list(b, i32(2))})}
	return api.Value{Kind: api.List, L: append(make([]api.Value, 0, 7), in, b, list(in, b))}
}

// sharing are values with lists, handed in one behind another.
func sharing() []api.Value {
	return row(raw("bytes"), roomy(), is("a", roomy()), id("abcdefghijkl"), list(roomy(), raw("x")))
}

// TestWhatIsHandedInIsTheCallers has it changed behind Add.
func TestWhatIsHandedInIsTheCallers(t *testing.T) {
	for _, kind := range all() {
		s := made(t, kind)
		for i, v := range sharing() {
			if e := s.Add(v); e != api.OK {
				t.Fatal(e)
			}
			if !bson.Same(v, sharing()[i]) {
				t.Errorf("kind %d: Add has changed its argument", kind)
			}
			spoil(v)
			apart := after(t, kind, sharing()[:i+1]...)
			if !bson.Same(s.Value(), apart.Value()) || s.Size() != apart.Size() {
				t.Errorf("kind %d: Value hangs on what was handed in: %s", kind, show(s.Value()))
			}
		}
	}
}

// TestWhatIsAnsweredIsTheCallers has Value changed by who was handed it, and more added behind it.
func TestWhatIsAnsweredIsTheCallers(t *testing.T) {
	for _, kind := range all() {
		s := made(t, kind)
		for i, v := range sharing() {
			s.Add(v)
			want := after(t, kind, sharing()[:i+1]...).Value()
			spoil(s.Value())
			if !bson.Same(s.Value(), want) {
				t.Errorf("kind %d: Value hangs on one that was changed", kind)
			}
			before, size := s.Value(), s.Size()
			for _, more := range sharing() {
				again := after(t, kind, sharing()[:i+1]...)
				stays := again.Value()
				again.Add(more)
				again.Add(text("more"))
				if !bson.Same(stays, want) {
					t.Errorf("kind %d: what Value answered is changed by Add", kind)
				}
			}
			if !bson.Same(before, want) || s.Size() != size {
				t.Errorf("kind %d: states hang on one another", kind)
			}
		}
	}
}

// TestSetsGoOnApart has a Set's answer changed between two Adds of alike ones.
func TestSetsGoOnApart(t *testing.T) {
	s := made(t, accum.Set)
	for _, v := range sharing() {
		s.Add(v)
		spoil(s.Value())
	}
	for _, v := range sharing() {
		wantAdd(t, s, "again", v, api.OK)
	}
	if got := s.Value(); !bson.Same(got, list(sharing()...)) {
		t.Error(show(got))
	}
}

// TestOneAnswersListsAreItsOwn has one value added twice, and one item of the answer changed.
func TestOneAnswersListsAreItsOwn(t *testing.T) {
	v := roomy()
	l := after(t, accum.Push, v, v).Value().L
	spoil(l[0])
	if !bson.Same(l[1], roomy()) || !bson.Same(v, roomy()) {
		t.Error("two lists of one answer are one")
	}
}

// TestRoomIsLeftAlone has room behind what is handed in.
func TestRoomIsLeftAlone(t *testing.T) {
	for _, kind := range all() {
		items := row(i32(1), i32(2), text("behind"), text("it"))
		fields := []api.Field{{Name: "a", V: i32(1)}, {Name: "b", V: i32(2)}}
		b := []byte{1, 2, 3}
		s := after(t, kind, list(items[:2]...), api.Value{Kind: api.Doc, F: fields[:1]}, api.Value{Kind: api.Bytes, B: b[:1]})
		s.Add(i32(3))
		s.Value()
		if !bson.Same(list(items...), list(i32(1), i32(2), text("behind"), text("it"))) || fields[1].Name != "b" || b[1] != 2 {
			t.Errorf("kind %d: room was changed", kind)
		}
	}
}
