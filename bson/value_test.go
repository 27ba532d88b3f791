package bson_test

import (
	"strconv"
	"testing"

	"aqueduct/api"
	"aqueduct/bson"
)

// odd are values that may not be, one or none of them a Doc.
func odd() []api.Value {
	return []api.Value{
		{}, {N: 5}, {Kind: -1, N: 5, S: "x"}, {Kind: 99, F: []api.Field{is("a", i32(1))}, L: []api.Value{i32(2)}},
		{Kind: api.List, F: []api.Field{is("a", i32(1))}}, {Kind: api.Null, B: []byte{1, 2}},
		i32(1 << 40), truth(7), id(1, 2), text("\xff"), list(api.Value{}, null),
	}
}

// beside is a Doc of those fields that has something beside them.
func beside(l ...api.Field) api.Value {
	return api.Value{Kind: api.Doc, N: 7, S: "s\xff", B: []byte{1, 2}, F: l, L: []api.Value{i32(1), doc(is("a", text("x")))}}
}

// unchanged tells of a value that it was not changed.
func unchanged(t *testing.T, v api.Value) func() {
	same := deepCopy(v)
	return func() {
		t.Helper()
		wantAlike(t, "what was handed in", v, same)
	}
}

func deepCopy(v api.Value) api.Value {
	v.B = append([]byte{}, v.B...)
	f, l := v.F, v.L
	v.F, v.L = nil, nil
	for _, x := range f {
		v.F = append(v.F, is(x.Name, deepCopy(x.V)))
	}
	for _, x := range l {
		v.L = append(v.L, deepCopy(x))
	}
	return v
}

func TestGet(t *testing.T) {
	v, _ := whole()
	for _, f := range v.F {
		wantAlike(t, "Get "+f.Name, bson.Get(v, f.Name), f.V)
	}
	for _, name := range []string{"", "n", "N0", "n0 ", "n0\x00", "in.n0", "\xff", "n00"} {
		wantAlike(t, "Get of none", bson.Get(v, name), api.Value{})
	}
	wantAlike(t, "Get of an empty one", bson.Get(doc(), "a"), api.Value{})
	wantAlike(t, "Get of the empty name", bson.Get(doc(is("a", null), is("", i32(4))), ""), i32(4))
	wantAlike(t, "Get of a name twice", bson.Get(doc(is("x", null), is("a", i32(1)), is("a", i32(2))), "a"), i32(1))
	wantAlike(t, "Get of a wrong name", bson.Get(doc(is("\xff\x00", i32(4))), "\xff\x00"), i32(4))
	wantAlike(t, "Get beside others", bson.Get(beside(is("a", i32(4))), "a"), i32(4))
	for i, x := range odd() {
		wantAlike(t, "Get of no Doc "+strconv.Itoa(i), bson.Get(x, "a"), api.Value{})
		wantAlike(t, "Get of what may not be "+strconv.Itoa(i), bson.Get(one(x), "a"), x)
	}
	for _, s := range samples() {
		if s.code != 0x03 {
			wantAlike(t, "Get of no Doc", bson.Get(s.v, "0"), api.Value{})
		}
	}
}

func TestWith(t *testing.T) {
	v := doc(is("a", i32(1)), is("b", i32(2)), is("c", i32(3)))
	check := unchanged(t, v)
	for _, s := range samples() {
		wantAlike(t, "With in its place", bson.With(v, "b", s.v), doc(is("a", i32(1)), is("b", s.v), is("c", i32(3))))
		wantAlike(t, "With of the first", bson.With(v, "a", s.v), doc(is("a", s.v), is("b", i32(2)), is("c", i32(3))))
		wantAlike(t, "With of the last", bson.With(v, "c", s.v), doc(is("a", i32(1)), is("b", i32(2)), is("c", s.v)))
		wantAlike(t, "With at the end", bson.With(v, "d", s.v), doc(is("a", i32(1)), is("b", i32(2)), is("c", i32(3)), is("d", s.v)))
		wantAlike(t, "With of an empty one", bson.With(doc(), "", s.v), doc(is("", s.v)))
	}
	check()
	twice := doc(is("a", i32(1)), is("b", i32(2)), is("a", i32(3)), is("a", i32(4)))
	wantAlike(t, "With of a name twice", bson.With(twice, "a", null), doc(is("a", null), is("b", i32(2)), is("a", i32(3)), is("a", i32(4))))
	wantAlike(t, "With of itself", bson.With(v, "b", v), doc(is("a", i32(1)), is("b", v), is("c", i32(3))))
	wantAlike(t, "With of a wrong name", bson.With(v, "\xff\x00", null), doc(append(v.F[:3:3], is("\xff\x00", null))...))
	for i, x := range odd() {
		if x.Kind == api.Missing {
			continue
		}
		wantAlike(t, "With of what may not be "+strconv.Itoa(i), bson.With(v, "b", x), doc(is("a", i32(1)), is("b", x), is("c", i32(3))))
		wantAlike(t, "With to no Doc "+strconv.Itoa(i), bson.With(x, "a", null), x)
	}
	wantAlike(t, "With to Missing", bson.With(api.Value{N: 5}, "a", null), api.Value{N: 5})
	for _, s := range samples() {
		if s.code != 0x03 {
			wantAlike(t, "With to no Doc", bson.With(s.v, "0", i32(1)), s.v)
		}
	}
}

func TestWithout(t *testing.T) {
	v := doc(is("a", i32(1)), is("b", i32(2)), is("c", i32(3)), is("b", i32(4)))
	check := unchanged(t, v)
	for name, want := range map[string]api.Value{
		"a": doc(is("b", i32(2)), is("c", i32(3)), is("b", i32(4))),
		"b": doc(is("a", i32(1)), is("c", i32(3))),
		"c": doc(is("a", i32(1)), is("b", i32(2)), is("b", i32(4))),
		"d": v, "": v, "a.b": v, "\xff": v,
	} {
		wantAlike(t, "Without "+name, bson.Without(v, name), want)
		wantAlike(t, "With of Missing "+name, bson.With(v, name, api.Value{}), want)
		wantAlike(t, "With of Missing that has more "+name, bson.With(v, name, api.Value{N: 5, S: "x"}), want)
		wantAlike(t, "Without twice "+name, bson.Without(bson.Without(v, name), name), want)
	}
	check()
	wantAlike(t, "Without all", bson.Without(doc(is("a", null), is("a", null)), "a"), doc())
	wantAlike(t, "Without of an empty one", bson.Without(doc(), "a"), doc())
	wantAlike(t, "Without within", bson.Without(one(v), "b"), one(v))
	for i, x := range odd() {
		wantAlike(t, "Without of no Doc "+strconv.Itoa(i), bson.Without(x, "a"), x)
		wantAlike(t, "With of Missing to no Doc "+strconv.Itoa(i), bson.With(x, "a", api.Value{}), x)
		wantAlike(t, "Without beside what may not be "+strconv.Itoa(i), bson.Without(doc(is("a", x), is("b", x)), "a"), doc(is("b", x)))
	}
}

// TestWhatADocHasBeside stays as it is.
func TestWhatADocHasBeside(t *testing.T) {
	v := beside(is("a", i32(1)), is("b", i32(2)))
	wantAlike(t, "With in its place", bson.With(v, "a", null), beside(is("a", null), is("b", i32(2))))
	wantAlike(t, "With at the end", bson.With(v, "c", null), beside(is("a", i32(1)), is("b", i32(2)), is("c", null)))
	wantAlike(t, "With of Missing", bson.With(v, "a", api.Value{}), beside(is("b", i32(2))))
	wantAlike(t, "Without", bson.Without(v, "b"), beside(is("a", i32(1))))
	wantAlike(t, "Without of none", bson.Without(v, "c"), v)
	wantAlike(t, "With of such", bson.With(doc(), "c", v), doc(is("c", v)))
	wantAlike(t, "Copy", bson.Copy(v), v)
}

func wantSame(t *testing.T, what string, a, b api.Value, want bool) {
	t.Helper()
	if bson.Same(a, b) != want || bson.Same(b, a) != want {
		t.Errorf("%s: Same %v, %v, want %v; of %.200v and %.200v", what, bson.Same(a, b), bson.Same(b, a), want, a, b)
	}
}

func TestSame(t *testing.T) {
	var all []api.Value
	for _, s := range samples() {
		all = append(all, s.v, one(s.v), list(s.v, s.v), doc(is("b", s.v)), doc(is("a", s.v), is("b", s.v)), doc(is("b", s.v), is("a", s.v)))
	}
	all = append(all, odd()...)
	v, _ := whole()
	all = append(all, v, beside(), beside(is("a", null)))
	for _, a := range all {
		wantSame(t, "with a copy", a, deepCopy(a), true)
		for _, b := range all {
			wantSame(t, "of two", a, b, alike(a, b))
		}
	}
	for kind := -1; kind < 15; kind++ {
		for other := -1; other < 15; other++ {
			a, b := api.Value{Kind: kind, N: 1}, api.Value{Kind: other, N: 1}
			wantSame(t, "kinds", a, b, kind == other)
			wantSame(t, "kinds in a document", one(a), one(b), kind == other)
			wantSame(t, "kinds in a List", list(a), list(b), kind == other)
		}
	}
}

// TestSameOfOneDifference has two values that differ in one thing each.
func TestSameOfOneDifference(t *testing.T) {
	a := beside(is("a", i32(1)), is("b", list(null, text("x"))))
	for i, change := range []func(v *api.Value){
		func(v *api.Value) { v.Kind = api.List },
		func(v *api.Value) { v.N = 8 },
		func(v *api.Value) { v.S = "s" },
		func(v *api.Value) { v.S = "" },
		func(v *api.Value) { v.B[1] = 3 },
		func(v *api.Value) { v.B = v.B[:1] },
		func(v *api.Value) { v.B = nil },
		func(v *api.Value) { v.F[0].Name = "c" },
		func(v *api.Value) { v.F[0].V.N = 2 },
		func(v *api.Value) { v.F[0].V.Kind = api.Int64 },
		func(v *api.Value) { v.F[1].V.L[1].S = "y" },
		func(v *api.Value) { v.F[1].V.L = v.F[1].V.L[:1] },
		func(v *api.Value) { v.F = v.F[:1] },
		func(v *api.Value) { v.F = v.F[1:] },
		func(v *api.Value) { v.F = nil },
		func(v *api.Value) { v.F[0], v.F[1] = v.F[1], v.F[0] },
		func(v *api.Value) { v.L[0].N = 2 },
		func(v *api.Value) { v.L[1].F[0].V.S = "" },
		func(v *api.Value) { v.L[0], v.L[1] = v.L[1], v.L[0] },
		func(v *api.Value) { v.L = v.L[:1] },
		func(v *api.Value) { v.L = append(v.L, api.Value{}) },
	} {
		b := deepCopy(a)
		wantSame(t, "none yet", a, b, true)
		change(&b)
		wantSame(t, "change "+strconv.Itoa(i), a, b, false)
		wantSame(t, "change within "+strconv.Itoa(i), one(list(a)), one(list(b)), false)
	}
}

func TestSameOfEmptyLists(t *testing.T) {
	for kind := range 14 {
		a := api.Value{Kind: kind}
		b := api.Value{Kind: kind, B: []byte{}, F: []api.Field{}, L: []api.Value{}}
		wantSame(t, "nil and empty", a, b, true)
		wantSame(t, "nil and empty in a document", one(a), one(b), true)
		wantSame(t, "nil and empty in a List", list(a, b), list(b, a), true)
	}
}

func TestCopy(t *testing.T) {
	v, b := whole()
	wantAlike(t, "Copy", bson.Copy(v), v)
	wantBoth(t, "Copy", bson.Copy(v), b)
	for i, x := range append(odd(), beside(is("a", beside())), doc(odd2()...)) {
		wantAlike(t, "Copy of what may not be "+strconv.Itoa(i), bson.Copy(x), x)
	}
	c := bson.Copy(api.Value{Kind: api.Doc})
	if len(c.B)+len(c.F)+len(c.L) != 0 {
		t.Error("Copy of nothing")
	}
}

// odd2 is the odd values as fields.
func odd2() []api.Field {
	var l []api.Field
	for _, x := range odd() {
		l = append(l, is("x", x))
	}
	return l
}

// TestValuesShareNothing spoils each answer, and holds that nothing else is changed by it.
func TestValuesShareNothing(t *testing.T) {
	w, _ := whole()
	for _, v := range append(odd(), w, one(w), list(w, w), beside(is("a", beside(is("b", raw(1, 2)))))) {
		in := doc(is("a", v), is("b", v))
		for what, call := range map[string]func() api.Value{
			"Copy":                 func() api.Value { return bson.Copy(v) },
			"Get":                  func() api.Value { return bson.Get(in, "a") },
			"With":                 func() api.Value { return bson.With(in, "c", v) },
			"With in its place":    func() api.Value { return bson.With(in, "a", v) },
			"With of itself":       func() api.Value { return bson.With(in, "a", in) },
			"With to no Doc":       func() api.Value { return bson.With(list(v), "a", v) },
			"With of Missing":      func() api.Value { return bson.With(in, "a", api.Value{}) },
			"Without":              func() api.Value { return bson.Without(in, "a") },
			"Without of none":      func() api.Value { return bson.Without(in, "c") },
			"Without of no Doc":    func() api.Value { return bson.Without(list(v), "a") },
			"With of lists within": func() api.Value { return bson.With(v, "c", v) },
		} {
			check, checkIn := unchanged(t, v), unchanged(t, in)
			got, again := call(), call()
			want := deepCopy(got)
			spoil(got)
			check()
			checkIn()
			wantAlike(t, what+": another answer", again, want)
			wantAlike(t, what+": a further answer", call(), want)
		}
	}
}

// TestPartsOfAnAnswerShareNothing has one list handed in twice: in the answer it stands twice.
func TestPartsOfAnAnswerShareNothing(t *testing.T) {
	shared := list(raw(1, 2), doc(is("x", i32(1))))
	for what, v := range map[string]api.Value{
		"Copy": bson.Copy(doc(is("a", shared), is("b", shared))),
		"With": bson.With(doc(is("a", shared)), "b", shared),
	} {
		spoil(v.F[0].V)
		wantAlike(t, what, v.F[1].V, shared)
	}
	v := bson.Copy(list(shared, shared))
	spoil(v.L[0])
	wantAlike(t, "Copy of a List", v.L[1], shared)
}

// TestSpareRoomIsLeftAlone has lists with room behind them.
func TestSpareRoomIsLeftAlone(t *testing.T) {
	room := []api.Field{is("a", i32(1)), is("b", i32(2)), is("c", i32(3)), is("d", i32(4))}
	v := doc(room[:2]...)
	bson.With(v, "z", null)
	bson.Without(v, "a")
	bson.With(v, "a", api.Value{})
	for i, f := range room {
		if f.V.N != int64(i+1) || f.Name != string(rune('a'+i)) {
			t.Errorf("the room behind the fields: %v", room)
		}
	}
	got := bson.With(v, "z", null)
	_ = append(got.F, is("y", null))
	one, two := append(bson.Copy(v).F, is("y", null)), append(bson.Copy(v).F, is("x", null))
	if one[2].Name != "y" || two[2].Name != "x" {
		t.Error("two answers share their room")
	}
}
