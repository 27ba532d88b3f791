package expr_test

import (
	"slices"
	"testing"

	"aqueduct/api"
	"aqueduct/bson"
)

// roomy is a value with lists of every sort, with room behind them.
func roomy() api.Value {
	b := api.Value{Kind: api.Bytes, B: append(make([]byte, 0, 9), 1, 2, 3)}
	in := api.Value{Kind: api.Doc, F: append(make([]api.Field, 0, 5), api.Field{Name: "b", V: b}, api.Field{Name: "l", V: list(b, i32(2))})}
	return api.Value{Kind: api.List, L: append(make([]api.Value, 0, 7), in, b, list(in, b))}
}

// sharing are expressions whose answers have lists of the expression's or of the document's.
func sharing() []api.Value {
	return row(
		text("$a"), text("$a.b"), text("$a.l"), literal(roomy()), roomy(), is("k", roomy()), list(text("$a"), roomy()),
		op("$cond", yes, text("$a"), null), op("$cond", no, null, literal(roomy())), op("$ifNull", null, literal(roomy())), op("$ifNull", text("$a"), null),
		op("$arrayElemAt", text("$a"), i32(0)), op("$arrayElemAt", literal(roomy()), i32(-1)), op("$arrayElemAt", list(roomy(), null), i32(0)),
		docs(is("p", text("$a")), is("q", text("$a")), is("r", literal(roomy()))), list(text("$a"), text("$a")), raw("bytes"), list(id("abcdefghijkl")),
	)
}

// TestEvalIsNewMemory has answers, the document and the expression changed by who has them: no later answer hangs on that.
func TestEvalIsNewMemory(t *testing.T) {
	for i := range sharing() {
		v, d := sharing()[i], is("a", roomy())
		x := parsed(t, v)
		first, e := x.Eval(d)
		if e != api.OK {
			t.Fatal(show(v), e)
		}
		second, _ := x.Eval(d)
		want := bson.Copy(first)
		spoil(first)
		if !bson.Same(second, want) {
			t.Errorf("%s: an answer hangs on another", show(sharing()[i]))
		}
		if !bson.Same(d, is("a", roomy())) || !bson.Same(v, sharing()[i]) || !bson.Same(x.Value(), sharing()[i]) {
			t.Errorf("%s: an answer shares lists with what was handed in", show(sharing()[i]))
		}
		if third, _ := x.Eval(d); !bson.Same(third, want) {
			t.Errorf("%s: an answer hangs on one that was changed", show(sharing()[i]))
		}
		spoil(d)
		spoil(v)
		if !bson.Same(second, want) {
			t.Errorf("%s: an answer hangs on what was handed in", show(sharing()[i]))
		}
		if fourth, e := x.Eval(is("a", roomy())); e != api.OK || !bson.Same(fourth, want) {
			t.Errorf("%s: an expression hangs on what it was read from", show(sharing()[i]))
		}
		if !bson.Same(x.Value(), sharing()[i]) {
			t.Errorf("%s: Value hangs on what was handed in", show(sharing()[i]))
		}
	}
}

// TestOneAnswersListsAreItsOwn has a list of an answer changed: the others in it stay.
func TestOneAnswersListsAreItsOwn(t *testing.T) {
	for _, v := range row(list(text("$a"), text("$a")), list(literal(roomy()), text("$a")), docs(is("p", text("$a")), is("q", text("$a")))) {
		got, e := parsed(t, v).Eval(is("a", roomy()))
		if e != api.OK {
			t.Fatal(show(v), e)
		}
		one, other := got.L, got.L
		if got.Kind == api.Doc {
			one, other = row(got.F[0].V), row(missing, got.F[1].V)
		}
		spoil(one[0])
		if !bson.Same(other[1], roomy()) {
			t.Errorf("%s: two lists of one answer are one", show(v))
		}
	}
}

// TestRoomIsLeftAlone has room behind what is handed in.
func TestRoomIsLeftAlone(t *testing.T) {
	items := row(text("$a"), text("$b"), i32(5), text("$"))
	fields := []api.Field{{Name: "a", V: i32(1)}, {Name: "b", V: i32(2)}, {Name: "$add", V: i32(3)}}
	d := api.Value{Kind: api.Doc, F: fields[:2]}
	for _, v := range row(list(items[:2]...), op("$add", items[:2]...), is("$concat", list(items[:1]...)), api.Value{Kind: api.Doc, F: fields[:2]}) {
		x := parsed(t, v)
		x.Eval(d)
		x.Value()
		if !bson.Same(list(items...), list(text("$a"), text("$b"), i32(5), text("$"))) || fields[2].Name != "$add" || !bson.Same(fields[2].V, i32(3)) {
			t.Fatal("room was changed", show(list(items...)))
		}
	}
}

// TestValueAndPathsAreTheCallers has both changed by who was handed them.
func TestValueAndPathsAreTheCallers(t *testing.T) {
	v := list(text("$a.b"), roomy(), op("$add", text("$c"), text("$d.e.f")))
	x := parsed(t, v)
	spoil(x.Value())
	if !bson.Same(x.Value(), v) {
		t.Error("Value hangs on one that was changed")
	}
	before, d := x.Paths(), docs(is("a", is("b", i32(1))), is("c", i32(2)), is("d", is("e", is("f", i32(3)))))
	for _, p := range x.Paths() {
		for i := range p[:cap(p)] {
			p[:cap(p)][i] = "spoilt"
		}
	}
	all := x.Paths()
	clear(all[:cap(all)])
	want := [][]string{{"a", "b"}, {"c"}, {"d", "e", "f"}}
	if !slices.EqualFunc(x.Paths(), want, slices.Equal) || !slices.EqualFunc(before, want, slices.Equal) {
		t.Error("Paths hangs on one that was changed", x.Paths(), before)
	}
	if got, e := x.Eval(d); e != api.OK || !bson.Same(got, list(i32(1), roomy(), i32(5))) {
		t.Error("Eval hangs on Paths", show(got), e)
	}
}

// TestExpressionsApart has two of one value, and one of many documents, by turns.
func TestExpressionsApart(t *testing.T) {
	v := op("$add", text("$a"), op("$multiply", text("$b"), i32(10)))
	x, y := parsed(t, v), parsed(t, v)
	for a := range int64(20) {
		d := docs(is("a", i32(a)), is("b", i32(a+1)))
		one, e := x.Eval(d)
		if _, f := y.Eval(is("a", text("x"))); f != api.ErrType {
			t.Fatal(f)
		}
		two, f := y.Eval(d)
		if e != api.OK || f != api.OK || !bson.Same(one, i32(a+10*(a+1))) || !bson.Same(two, one) {
			t.Fatal(a, show(one), e, show(two), f)
		}
	}
}
